package engine

import (
	"rhyton/api"
	"rhyton/stack"
)

// Exec lets a word be executed next.
func (g *Engine) Exec(xt int) api.Errno {
	if !g.isWord(xt) {
		return api.ErrNone
	}
	g.next = xt
	return api.OK
}

// Step goes on by one step.
func (g *Engine) Step() api.Status {
	if g == nil {
		return api.Status{Kind: api.EnHalt}
	}
	if xt := g.next; xt != 0 {
		g.next = 0
		return g.execute(xt)
	}
	top, ok := g.frames.Top()
	switch {
	case ok && (top.Kind == api.FrToken || top.Kind == api.FrRecog):
		return api.Status{Kind: api.EnWait, Sort: top.Kind}
	case g.position.def != 0:
		return g.instruct()
	case ok:
		return g.endFrame(top)
	}
	return api.Status{Kind: api.EnHalt}
}

// endFrame ends what the top frame stands for.
func (g *Engine) endFrame(top api.Frame) api.Status {
	switch top.Kind {
	case api.FrCall:
		g.frames.Pop(api.FrCall)
		g.goTo(top.A, top.B)
		return ran()
	case api.FrCatch:
		e := g.push(0)
		if e == api.OK { // otherwise this frame is the one that catches the error
			g.frames.Pop(api.FrCatch)
		}
		return g.after(e)
	}
	return g.Throw(api.ThBack)
}

// Throw throws a code.
func (g *Engine) Throw(e api.Errno) api.Status {
	if g == nil {
		return api.Status{Kind: api.EnHalt}
	}
	g.next, g.position = 0, position{}
	catch, ok := g.frames.Catch()
	if !ok {
		g.stack().Cut(0)
		g.frames.Cut(0)
		return api.Status{Kind: api.EnDead, N: int(e)}
	}
	g.stack().Cut(catch.A)
	g.push(api.Cell(e)) // it fits, but where a frame was pushed from outside that is as deep as the whole stack
	g.input.Cut(catch.B)
	if g.input.Depth() == catch.B {
		g.input.Seek(int(catch.X))
	}
	return ran()
}

// execute executes a word.
func (g *Engine) execute(xt int) api.Status {
	w, ok := g.Word(xt)
	if !ok {
		return g.Throw(api.ThMem)
	}
	switch w.Kind {
	case api.WkPrim:
		return g.after(g.state.Do(w.N))
	case api.WkCtl:
		return g.controls[w.N]()
	case api.WkFlow, api.WkHost:
		return api.Status{Kind: api.EnHost, Sort: w.Kind, N: w.N}
	case api.WkColon:
		return g.after(g.call(w.N))
	case api.WkDoes:
		return g.after(g.callWith(w.W, w.N))
	case api.WkDefer:
		return g.after(g.forward(w.N))
	}
	return g.after(g.push(w.W))
}

// instruct executes the instruction at the position.
func (g *Engine) instruct() api.Status {
	x, ok := g.at(g.position)
	if !ok {
		return g.Throw(api.ThBack)
	}
	g.position.index++ // ahead of the instruction: a call comes back to the one behind it
	return g.instructions[x.Op](x)
}

// call begins with a definition.
func (g *Engine) call(n int) api.Errno {
	if !g.isDef(n) {
		return api.ThMem
	}
	e := g.frames.Push(g.back())
	if e == api.OK {
		g.goTo(n, 0)
	}
	return e
}

// callWith pushes a cell and begins with a definition.
func (g *Engine) callWith(x api.Cell, n int) api.Errno {
	if !g.isDef(n) {
		return api.ThMem
	}
	e := g.push(x)
	if e != api.OK {
		return e
	}
	e = g.call(n)
	if e != api.OK {
		g.stack().Pop()
	}
	return e
}

// forward lets the word be next for which a deferred one stands.
func (g *Engine) forward(xt int) api.Errno {
	switch {
	case xt == 0:
		return api.ThKind
	case g.Exec(xt) != api.OK:
		return api.ThMem
	}
	return api.OK
}

// back is the frame that comes back to the position.
func (g *Engine) back() api.Frame {
	return api.Frame{Kind: api.FrCall, A: g.position.def, B: g.position.index}
}

// goTo makes an instruction of a definition the position.
func (g *Engine) goTo(def, index int) {
	g.position = position{def, index}
	if def == 0 {
		g.position = position{}
	}
}

func (g *Engine) stack() *stack.Stack { return g.state.Stack() }

func (g *Engine) push(x api.Cell) api.Errno { return g.stack().Push(x) }

// after is the status after what may have ended with an error, which is thrown.
func (g *Engine) after(e api.Errno) api.Status {
	if e != api.OK {
		return g.Throw(e)
	}
	return ran()
}

func ran() api.Status { return api.Status{Kind: api.EnRan} }
