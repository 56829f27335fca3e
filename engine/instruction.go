package engine

import "rhyton/api"

// allInstructions are the actions of the instructions, by what these do.
func (g *Engine) allInstructions() map[uint8]func(api.Ins) api.Status {
	return map[uint8]func(api.Ins) api.Status{
		api.OpLit:    g.literal,
		api.OpCall:   g.executeWord,
		api.OpJump:   g.jump,
		api.OpZero:   g.jumpIfZero,
		api.OpDo:     g.beginLoop,
		api.OpQDo:    g.beginLoopUnlessDone,
		api.OpLoop:   g.advance,
		api.OpPlus:   g.advanceByTaken,
		api.OpLeave:  g.leaveLoop,
		api.OpOf:     g.jumpUnlessSame,
		api.OpDrop:   g.drop,
		api.OpLocals: g.beginLocals,
		api.OpLocal:  g.local,
		api.OpTo:     g.setLocal,
		api.OpExit:   g.exit,
	}
}

func (g *Engine) literal(x api.Ins) api.Status { return g.after(g.push(x.W)) }

func (g *Engine) executeWord(x api.Ins) api.Status { return g.execute(x.A) }

func (g *Engine) jump(x api.Ins) api.Status {
	g.position.index = x.A
	return ran()
}

func (g *Engine) jumpIfZero(x api.Ins) api.Status {
	return g.after(g.taking(1, func(l []api.Cell) api.Errno {
		if l[0] == 0 {
			g.position.index = x.A
		}
		return api.OK
	}))
}

// loop is the frame of a loop that begins with two cells: the limit, and upon it the first index.
func loop(l []api.Cell) api.Frame {
	return api.Frame{Kind: api.FrLoop, X: l[1], Y: l[0]}
}

func (g *Engine) beginLoop(api.Ins) api.Status { return g.after(g.pushFrame(2, loop)) }

func (g *Engine) beginLoopUnlessDone(x api.Ins) api.Status {
	return g.after(g.taking(2, func(l []api.Cell) api.Errno {
		if l[0] == l[1] {
			g.position.index = x.A
			return api.OK
		}
		return g.frames.Push(loop(l))
	}))
}

func (g *Engine) advance(x api.Ins) api.Status { return g.after(g.advanceBy(1, x.A)) }

func (g *Engine) advanceByTaken(x api.Ins) api.Status {
	return g.after(g.taking(1, func(l []api.Cell) api.Errno { return g.advanceBy(l[0], x.A) }))
}

// advanceBy advances the loop on top, and goes to an instruction if it does not end.
func (g *Engine) advanceBy(by api.Cell, to int) api.Errno {
	ended, e := g.frames.Step(by)
	if e == api.OK && !ended {
		g.position.index = to
	}
	return e
}

func (g *Engine) leaveLoop(x api.Ins) api.Status {
	e := g.endLoop()
	if e == api.OK {
		g.position.index = x.A
	}
	return g.after(e)
}

func (g *Engine) jumpUnlessSame(x api.Ins) api.Status {
	return g.after(g.taking(2, func(l []api.Cell) api.Errno {
		if l[0] == l[1] {
			return api.OK
		}
		g.position.index = x.A
		return g.push(l[0])
	}))
}

func (g *Engine) drop(api.Ins) api.Status {
	_, e := g.stack().Pop()
	return g.after(e)
}

func (g *Engine) beginLocals(x api.Ins) api.Status {
	return g.after(g.pushFrame(x.A, func(l []api.Cell) api.Frame {
		return api.Frame{Kind: api.FrLocals, L: l}
	}))
}

func (g *Engine) local(x api.Ins) api.Status {
	local, e := g.frames.Local(x.A)
	if e == api.OK {
		e = g.push(local)
	}
	return g.after(e)
}

func (g *Engine) setLocal(x api.Ins) api.Status {
	return g.after(g.taking(1, func(l []api.Cell) api.Errno { return g.frames.SetLocal(x.A, l[0]) }))
}

// exit ends the definition, with its locals. What else it left on the frames is found when its caller is gone back to.
func (g *Engine) exit(api.Ins) api.Status {
	g.frames.Pop(api.FrLocals) // where no locals are on top, nothing is to be removed
	g.position = position{}
	return ran()
}
