package engine_test

import (
	"slices"
	"testing"

	"rhyton/api"
	"rhyton/engine"
	"rhyton/ins"
	"rhyton/prim"
	"rhyton/source"
	"rhyton/table"
)

// The errors, kinds, numbers and limits are written as numbers: a wrong name in the package cannot hide behind the same name here.
const (
	ok      = api.Errno(0)
	errArg  = api.Errno(1)
	errNone = api.Errno(2)
	thOver  = api.Errno(-3)
	thUnder = api.Errno(-4)
	thDeep  = api.Errno(-5)
	thFrame = api.Errno(-6)
	thRoom  = api.Errno(-8)
	thMem   = api.Errno(-9)
	thZero  = api.Errno(-10)
	thBack  = api.Errno(-25)
	thLoop  = api.Errno(-26)
	thKind  = api.Errno(-32)

	mostWords  = 600
	mostDefs   = 300
	mostFrames = 128
	mostCells  = 128
)

// The kinds of words.
const (
	wkPrim  = 1
	wkCtl   = 2
	wkFlow  = 3
	wkHost  = 4
	wkColon = 5
	wkCell  = 6
	wkDoes  = 7
	wkDefer = 8
	wkValue = 9
)

// The engine's own words.
const (
	ctToR     = 1
	ctFromR   = 2
	ctCopyR   = 3
	ctI       = 4
	ctJ       = 5
	ctUnloop  = 6
	ctExecute = 7
	ctCatch   = 8
	ctThrow   = 9
)

// What instructions do.
const (
	opLit    = 1
	opCall   = 2
	opJump   = 3
	opZero   = 4
	opDo     = 5
	opQDo    = 6
	opLoop   = 7
	opPlus   = 8
	opLeave  = 9
	opOf     = 10
	opDrop   = 11
	opLocals = 12
	opLocal  = 13
	opTo     = 14
	opExit   = 15
)

// The kinds of frames.
const (
	frCall   = 1
	frCell   = 2
	frLoop   = 3
	frLocals = 4
	frCatch  = 5
	frToken  = 6
	frRecog  = 7
)

// How a step ends.
const (
	enRan  = 1
	enHost = 2
	enWait = 3
	enDead = 4
	enHalt = 5
)

// reading is a source of the model.
type reading struct {
	text string
	in   int
}

// model is what an engine, its state and its input must be. What goes wrong ends a step by a panic, as a thrown code or as a layer's error.
type model struct {
	words   []api.Word
	defs    []api.Def
	stack   []api.Cell
	frames  []api.Frame
	def, at int
	next    int
	sources []reading
	prims   *prim.State // does what is done in one step, on a stack that is laid there for it
}

// thrown is a code that the engine itself throws; failed is an error of a layer, which undoes the step.
type (
	thrown api.Errno
	failed api.Errno
)

func throw(e api.Errno) { panic(thrown(e)) }
func fail(e api.Errno)  { panic(failed(e)) }

func (m *model) has(xt int) bool   { return 1 <= xt && xt <= len(m.words) }
func (m *model) hasDef(n int) bool { return 1 <= n && n <= len(m.defs) }

// valid is the chapter's rule for words.
func (m *model) valid(w api.Word) bool {
	switch w.Kind {
	case wkPrim, wkCtl, wkFlow, wkHost:
		return slices.ContainsFunc(table.All(), func(b api.Built) bool { return b.Kind == w.Kind && b.N == w.N })
	case wkColon, wkDoes:
		return m.hasDef(w.N)
	case wkCell, wkValue:
		return w.N == 0
	case wkDefer:
		return w.N == 0 || m.has(w.N)
	}
	return false
}

func (m *model) push(x api.Cell) {
	if len(m.stack) == mostCells {
		fail(thOver)
	}
	m.stack = append(m.stack, x)
}

func (m *model) pop() api.Cell {
	if len(m.stack) == 0 {
		fail(thUnder)
	}
	x := m.stack[len(m.stack)-1]
	m.stack = m.stack[:len(m.stack)-1]
	return x
}

func (m *model) top() api.Frame {
	if len(m.frames) == 0 {
		return api.Frame{Kind: -1}
	}
	return m.frames[len(m.frames)-1]
}

func (m *model) pushFrame(x api.Frame) {
	if len(m.frames) == mostFrames {
		fail(thDeep)
	}
	m.frames = append(m.frames, x)
}

func (m *model) popFrame() { m.frames = m.frames[:len(m.frames)-1] }

// cut is layer 6's Cut.
func (m *model) cut(n int) {
	n = min(max(n, 0), mostCells)
	for len(m.stack) < n {
		m.stack = append(m.stack, 0)
	}
	m.stack = m.stack[:n]
}

// throws is what throwing means.
func (m *model) throws(e api.Errno) api.Status {
	m.def, m.at, m.next = 0, 0, 0
	for len(m.frames) > 0 {
		x := m.top()
		m.popFrame()
		if x.Kind != frCatch {
			continue
		}
		m.cut(x.A)
		if len(m.stack) < mostCells {
			m.stack = append(m.stack, api.Cell(e))
		}
		m.sources = m.sources[:min(max(x.B, 0), len(m.sources))]
		if n := len(m.sources); n > 0 && n == x.B {
			last := &m.sources[n-1]
			last.in = int(min(max(x.X, 0), api.Cell(len(last.text))))
		}
		return api.Status{Kind: enRan}
	}
	m.stack = nil
	return api.Status{Kind: enDead, N: int(e)}
}

// step does a step; what a layer refused leaves the stack and the frames as they were ahead of it.
func (m *model) step() (s api.Status) {
	stack, frames := slices.Clone(m.stack), copies(m.frames)
	defer func() {
		switch e := recover().(type) {
		case nil:
		case thrown:
			s = m.throws(api.Errno(e))
		case failed:
			m.stack, m.frames = stack, frames
			s = m.throws(api.Errno(e))
		default:
			panic(e)
		}
	}()
	return m.steps()
}

func (m *model) steps() api.Status {
	top := m.top()
	switch {
	case m.next != 0:
		xt := m.next
		m.next = 0
		return m.execute(xt)
	case top.Kind == frToken || top.Kind == frRecog:
		return api.Status{Kind: enWait, Sort: top.Kind}
	case m.def != 0:
		if !m.hasDef(m.def) || m.at < 0 || m.at >= len(m.defs[m.def-1].L) {
			throw(thBack)
		}
		x := m.defs[m.def-1].L[m.at]
		m.at++
		return m.instruction(x)
	case len(m.frames) == 0:
		return api.Status{Kind: enHalt}
	case top.Kind == frCall:
		m.popFrame()
		m.def, m.at = top.A, top.B
	case top.Kind == frCatch:
		m.popFrame()
		m.push(0)
	default:
		throw(thBack)
	}
	return api.Status{Kind: enRan}
}

func (m *model) execute(xt int) api.Status {
	if !m.has(xt) {
		throw(thMem)
	}
	w := m.words[xt-1]
	switch w.Kind {
	case wkPrim:
		m.prim(w.N)
	case wkCtl:
		m.control(w.N)
	case wkFlow, wkHost:
		return api.Status{Kind: enHost, Sort: w.Kind, N: w.N}
	case wkColon:
		m.call(w.N)
	case wkCell, wkValue:
		m.push(w.W)
	case wkDoes:
		if !m.hasDef(w.N) {
			throw(thMem)
		}
		m.push(w.W)
		m.call(w.N)
	case wkDefer:
		if w.N == 0 {
			throw(thKind)
		}
		if !m.has(w.N) {
			throw(thMem)
		}
		m.next = w.N
	}
	return api.Status{Kind: enRan}
}

// prim lets a state of its own do what is done in one step.
func (m *model) prim(n int) {
	m.prims.Stack().Cut(0)
	m.prims.Stack().Put(m.stack...)
	if e := m.prims.Do(n); e != ok {
		fail(e)
	}
	m.stack = m.prims.Stack().All()
}

// back is the frame of the position; without one, it has no index either.
func (m *model) back() api.Frame {
	if m.def == 0 {
		return api.Frame{Kind: frCall}
	}
	return api.Frame{Kind: frCall, A: m.def, B: m.at}
}

func (m *model) call(n int) {
	if !m.hasDef(n) {
		throw(thMem)
	}
	m.pushFrame(m.back())
	m.def, m.at = n, 0
}

func (m *model) takeWord() int {
	x := m.pop()
	if x < 1 || x > api.Cell(len(m.words)) {
		throw(thMem)
	}
	return int(x)
}

func (m *model) control(n int) {
	switch n {
	case ctToR:
		m.pushFrame(api.Frame{Kind: frCell, X: m.pop()})
	case ctFromR, ctCopyR:
		x := m.top()
		if x.Kind != frCell {
			fail(thFrame)
		}
		if n == ctFromR {
			m.popFrame()
		}
		m.push(x.X)
	case ctI:
		m.push(m.index(0))
	case ctJ:
		m.push(m.index(1))
	case ctUnloop:
		m.popLoop()
	case ctExecute:
		m.next = m.takeWord()
	case ctCatch:
		m.catch(m.takeWord())
	case ctThrow:
		if x := m.pop(); x != 0 {
			throw(api.Errno(x))
		}
	}
}

// index is where a loop is, if only loops are above it.
func (m *model) index(above int) api.Cell {
	at := len(m.frames) - 1 - above
	if at < 0 {
		fail(thLoop)
	}
	for _, x := range m.frames[at:] {
		if x.Kind != frLoop {
			fail(thLoop)
		}
	}
	return m.frames[at].X
}

func (m *model) popLoop() {
	if m.top().Kind != frLoop {
		throw(thLoop)
	}
	m.popFrame()
}

func (m *model) catch(xt int) {
	if len(m.frames) > mostFrames-2 {
		throw(thDeep)
	}
	m.pushFrame(m.back())
	x := api.Frame{Kind: frCatch, A: len(m.stack), B: len(m.sources)}
	if n := len(m.sources); n > 0 {
		x.X = api.Cell(m.sources[n-1].in)
	}
	m.pushFrame(x)
	m.def, m.at, m.next = 0, 0, xt
}

func (m *model) instruction(x api.Ins) api.Status {
	switch x.Op {
	case opLit:
		m.push(x.W)
	case opCall:
		return m.execute(x.A)
	case opJump:
		m.at = x.A
	case opZero:
		if m.pop() == 0 {
			m.at = x.A
		}
	case opDo, opQDo:
		m.begin(x)
	case opLoop:
		m.advance(1, x.A)
	case opPlus:
		m.advance(m.pop(), x.A)
	case opLeave:
		m.popLoop()
		m.at = x.A
	case opOf:
		b, a := m.pop(), m.pop()
		if a != b {
			m.push(a)
			m.at = x.A
		}
	case opDrop:
		m.pop()
	default:
		m.localInstruction(x)
	}
	return api.Status{Kind: enRan}
}

func (m *model) begin(x api.Ins) {
	start, limit := m.pop(), m.pop()
	if x.Op == opQDo && start == limit {
		m.at = x.A
		return
	}
	m.pushFrame(api.Frame{Kind: frLoop, X: start, Y: limit})
}

// advance is a loop's step: it ends where it goes over the border between the limit less 1 and the limit.
func (m *model) advance(by api.Cell, to int) {
	x := m.top()
	if x.Kind != frLoop {
		fail(thLoop)
	}
	d := x.X - x.Y
	if by >= 0 && d < 0 && d+by >= 0 || by < 0 && d >= 0 && d+by < 0 {
		m.popFrame()
		return
	}
	m.frames[len(m.frames)-1].X += by
	m.at = to
}

func (m *model) localInstruction(x api.Ins) {
	switch x.Op {
	case opLocals:
		l := make([]api.Cell, x.A)
		for i := range l {
			l[x.A-1-i] = m.pop()
		}
		m.pushFrame(api.Frame{Kind: frLocals, L: l})
	case opLocal:
		m.push(*m.local(x.A))
	case opTo:
		to := m.pop()
		*m.local(x.A) = to
	case opExit:
		if m.top().Kind == frLocals {
			m.popFrame()
		}
		m.def, m.at = 0, 0
	}
}

// local is a local of the topmost locals, if no call is above them.
func (m *model) local(i int) *api.Cell {
	for at := len(m.frames) - 1; at >= 0; at-- {
		x := m.frames[at]
		if x.Kind == frLocals && i < len(x.L) {
			return &x.L[i]
		}
		if x.Kind == frCall || x.Kind == frLocals {
			break
		}
	}
	fail(thFrame)
	return nil
}

// copies are frames that share nothing with others.
func copies(l []api.Frame) []api.Frame {
	l = slices.Clone(l)
	for i := range l {
		l[i].L = slices.Clone(l[i].L)
	}
	return l
}

func sameFrame(a, b api.Frame) bool {
	return a.Kind == b.Kind && a.A == b.A && a.B == b.B && a.X == b.X && a.Y == b.Y && slices.Equal(a.L, b.L)
}

// watched is an engine and what it must be: what is done to it is done to both, and both are held against each other.
type watched struct {
	*testing.T
	g  *engine.Engine
	s  *prim.State
	in *source.Input
	m  model
}

// made is a new engine.
func made(t *testing.T) *watched {
	t.Helper()
	s, e := prim.New(1024)
	if e != ok {
		t.Fatalf("prim.New = %d", e)
	}
	prims, _ := prim.New(1024)
	in := source.New()
	g := engine.New(s, in)
	if g == nil {
		t.Fatal("New = nil")
	}
	return &watched{t, g, s, in, model{prims: prims}}
}

// same holds all that can be seen, but for the words and definitions, against what it must be.
func (w *watched) same(after string, args ...any) {
	w.Helper()
	if l := w.s.Stack().All(); !slices.Equal(l, w.m.stack) {
		w.Fatalf(after+": the stack is %d, want %d", append(args, l, w.m.stack)...)
	}
	if l := w.frames(); !slices.EqualFunc(l, w.m.frames, sameFrame) {
		w.Fatalf(after+": the frames are %+v, want %+v", append(args, l, w.m.frames)...)
	}
	text, at := "", 0
	if n := len(w.m.sources); n > 0 {
		text, at = w.m.sources[n-1].text, w.m.sources[n-1].in
	}
	if w.in.Depth() != len(w.m.sources) || w.in.Text() != text || w.in.In() != at {
		w.Fatalf(after+": %d sources, the last one %q at %d, want %d, %q at %d", append(args, w.in.Depth(), w.in.Text(), w.in.In(), len(w.m.sources), text, at)...)
	}
	if out, want := w.s.Out(), w.m.prims.Out(); out != want {
		w.Fatalf(after+": the output is %q, want %q", append(args, out, want)...)
	}
}

// frames are the engine's frames, taken off one after the other and put on again.
func (w *watched) frames() []api.Frame {
	var l []api.Frame
	f := w.g.Frames()
	for top, is := f.Top(); is; top, is = f.Top() {
		l = append(l, top)
		f.Cut(f.Depth() - 1)
	}
	slices.Reverse(l)
	for _, x := range l {
		f.Push(x)
	}
	return l
}

// kept holds all words and definitions against what they must be.
func (w *watched) kept() {
	w.Helper()
	words, defs := w.g.Many()
	if words != len(w.m.words) || defs != len(w.m.defs) {
		w.Fatalf("Many() = %d, %d, want %d, %d", words, defs, len(w.m.words), len(w.m.defs))
	}
	for xt := -1; xt <= words+2; xt++ {
		got, is := w.g.Word(xt)
		want := api.Word{}
		if w.m.has(xt) {
			want = w.m.words[xt-1]
		}
		if got != want || is != w.m.has(xt) {
			w.Fatalf("Word(%d) = %+v, %v, want %+v", xt, got, is, want)
		}
	}
	for n := -1; n <= defs+2; n++ {
		got, is := w.g.Def(n)
		want := api.Def{}
		if w.m.hasDef(n) {
			want = w.m.defs[n-1]
		}
		if !slices.Equal(got.L, want.L) || is != w.m.hasDef(n) {
			w.Fatalf("Def(%d) = %+v, %v, want %+v", n, got, is, want)
		}
	}
}

func (w *watched) add(x api.Word) int {
	w.Helper()
	n, e := 0, ok
	switch {
	case !w.m.valid(x):
		e = errArg
	case len(w.m.words) == mostWords:
		e = thRoom
	default:
		w.m.words = append(w.m.words, x)
		n = len(w.m.words)
	}
	if xt, ge := w.g.Add(x); xt != n || ge != e {
		w.Fatalf("Add(%+v) = %d, %d, want %d, %d", x, xt, ge, n, e)
	}
	return n
}

func (w *watched) set(xt int, x api.Word) {
	w.Helper()
	e := ok
	switch {
	case !w.m.has(xt):
		e = errNone
	case !w.m.valid(x):
		e = errArg
	default:
		w.m.words[xt-1] = x
	}
	if ge := w.g.Set(xt, x); ge != e {
		w.Fatalf("Set(%d, %+v) = %d, want %d", xt, x, ge, e)
	}
}

func (w *watched) define(d api.Def) int {
	w.Helper()
	n, e := 0, ok
	switch {
	case !ins.May(d, len(w.m.words)):
		e = errArg
	case len(w.m.defs) == mostDefs:
		e = thRoom
	default:
		w.m.defs = append(w.m.defs, api.Def{L: slices.Clone(d.L)})
		n = len(w.m.defs)
	}
	if got, ge := w.g.Define(d); got != n || ge != e {
		w.Fatalf("Define(%s) = %d, %d, want %d, %d", ins.Text(d), got, ge, n, e)
	}
	return n
}

func (w *watched) cut(words, defs int) {
	w.Helper()
	e := errArg
	if words >= 0 && words <= len(w.m.words) && defs >= 0 && defs <= len(w.m.defs) {
		w.m.words, w.m.defs, e = w.m.words[:words], w.m.defs[:defs], ok
	}
	if ge := w.g.Cut(words, defs); ge != e {
		w.Fatalf("Cut(%d, %d) = %d, want %d", words, defs, ge, e)
	}
}

func (w *watched) exec(xt int) {
	w.Helper()
	e := errNone
	if w.m.has(xt) {
		w.m.next, e = xt, ok
	}
	if ge := w.g.Exec(xt); ge != e {
		w.Fatalf("Exec(%d) = %d, want %d", xt, ge, e)
	}
	w.same("Exec(%d)", xt)
}

func (w *watched) step() api.Status {
	w.Helper()
	where := []any{w.m.next, w.m.def, w.m.at}
	want := w.m.step()
	got := w.g.Step()
	if got != want {
		w.Fatalf("Step() with %d next, at %d %d = %+v, want %+v", append(where, got, want)...)
	}
	w.same("Step() with %d next, at %d %d", where...)
	return got
}

func (w *watched) throw(e api.Errno) api.Status {
	w.Helper()
	want := w.m.throws(e)
	got := w.g.Throw(e)
	if got != want {
		w.Fatalf("Throw(%d) = %+v, want %+v", e, got, want)
	}
	w.same("Throw(%d)", e)
	return got
}

// put, frame, open and seek do to the stack, the frames and the input what others may do to them.
func (w *watched) put(l ...api.Cell) {
	w.s.Stack().Put(l...)
	w.m.stack = w.s.Stack().All()
}

func (w *watched) frame(x api.Frame) {
	if len(w.m.frames) < mostFrames {
		w.m.frames = append(w.m.frames, copies([]api.Frame{x})[0])
	}
	w.g.Frames().Push(x)
}

func (w *watched) popFrame() {
	if n := len(w.m.frames); n > 0 {
		w.m.frames = w.m.frames[:n-1]
	}
	w.g.Frames().Cut(w.g.Frames().Depth() - 1)
}

func (w *watched) open(text string) {
	if w.in.Open(text) == ok {
		w.m.sources = append(w.m.sources, reading{text, 0})
	}
}

func (w *watched) seek(at int) {
	w.in.Seek(at)
	if n := len(w.m.sources); n > 0 {
		last := &w.m.sources[n-1]
		last.in = min(max(at, 0), len(last.text))
	}
}

// run goes on as long as it may, but for at most so many steps.
func (w *watched) run(most int) api.Status {
	w.Helper()
	s := api.Status{Kind: enRan}
	for n := 0; n < most && s.Kind == enRan; n++ {
		s = w.step()
	}
	return s
}
