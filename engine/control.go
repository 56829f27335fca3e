package engine

import "rhyton/api"

// allControls are the engine's own words, by their numbers.
func (g *Engine) allControls() map[int]func() api.Status {
	return map[int]func() api.Status{
		api.CtToR:     g.toR,
		api.CtFromR:   g.fromR,
		api.CtCopyR:   g.copyR,
		api.CtI:       g.inner,
		api.CtJ:       g.outer,
		api.CtUnloop:  g.unloop,
		api.CtExecute: g.executeTaken,
		api.CtCatch:   g.catchTaken,
		api.CtThrow:   g.throwTaken,
	}
}

// toR brings a cell to the frames.
func (g *Engine) toR() api.Status {
	return g.after(g.pushFrame(1, func(l []api.Cell) api.Frame {
		return api.Frame{Kind: api.FrCell, X: l[0]}
	}))
}

// fromR brings it back.
func (g *Engine) fromR() api.Status {
	e := g.pushFramed()
	if e == api.OK {
		g.frames.Pop(api.FrCell)
	}
	return g.after(e)
}

// copyR pushes the cell, and leaves it there too.
func (g *Engine) copyR() api.Status { return g.after(g.pushFramed()) }

// pushFramed pushes the cell of the top frame.
func (g *Engine) pushFramed() api.Errno {
	top, ok := g.frames.Top()
	if !ok || top.Kind != api.FrCell {
		return api.ThFrame
	}
	return g.push(top.X)
}

// inner pushes where the innermost loop is.
func (g *Engine) inner() api.Status { return g.after(g.pushIndex(0)) }

// outer pushes where the loop around it is.
func (g *Engine) outer() api.Status { return g.after(g.pushIndex(1)) }

// pushIndex pushes where the loop is that has so many others within it.
func (g *Engine) pushIndex(within int) api.Errno {
	x, e := g.frames.Index(within)
	if e != api.OK {
		return e
	}
	return g.push(x)
}

func (g *Engine) unloop() api.Status { return g.after(g.endLoop()) }

// endLoop removes the frame of a loop.
func (g *Engine) endLoop() api.Errno {
	_, e := g.frames.Pop(api.FrLoop)
	if e == api.ThFrame {
		return api.ThLoop
	}
	return e
}

// executeTaken lets a word be next whose number is taken.
func (g *Engine) executeTaken() api.Status {
	xt, e := g.takeWord()
	if e == api.OK {
		g.next = xt
	}
	return g.after(e)
}

// catchTaken does the same within a frame that catches.
func (g *Engine) catchTaken() api.Status {
	xt, e := g.takeWord()
	if e == api.OK {
		e = g.pushCatch()
	}
	if e == api.OK {
		g.position = position{}
		g.next = xt
	}
	return g.after(e)
}

// throwTaken throws a code that is taken. OK, which is 0, is none.
func (g *Engine) throwTaken() api.Status {
	x, e := g.stack().Pop()
	if e == api.OK {
		e = api.Errno(x)
	}
	return g.after(e)
}

// takeWord takes the number of a word. A cell that is none remains taken: it is no layer's error then.
func (g *Engine) takeWord() (int, api.Errno) {
	x, e := g.stack().Pop()
	switch {
	case e != api.OK:
		return 0, e
	case !g.isWord(int(x)):
		return 0, api.ThMem
	}
	return int(x), api.OK
}

// pushCatch pushes the frame that comes back to the position, and upon it the one that catches.
func (g *Engine) pushCatch() api.Errno {
	if g.frames.Depth()+2 > api.MaxFrames {
		return api.ThDeep
	}
	g.frames.Push(g.back())
	return g.frames.Push(api.Frame{
		Kind: api.FrCatch,
		A:    g.stack().Depth(),
		B:    g.input.Depth(),
		X:    api.Cell(g.input.In()),
	})
}

// taking takes cells for an action. They are put back if it fails.
func (g *Engine) taking(n int, do func(l []api.Cell) api.Errno) api.Errno {
	l, e := g.stack().Take(n)
	if e != api.OK {
		return e
	}
	e = do(l)
	if e != api.OK {
		g.stack().Put(l...)
	}
	return e
}

// pushFrame takes cells and pushes the frame that is made of them.
func (g *Engine) pushFrame(n int, of func(l []api.Cell) api.Frame) api.Errno {
	return g.taking(n, func(l []api.Cell) api.Errno { return g.frames.Push(of(l)) })
}
