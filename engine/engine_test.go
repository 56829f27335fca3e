package engine_test

import (
	"math"
	"slices"
	"strconv"
	"strings"
	"testing"

	"rhyton/api"
	"rhyton/engine"
	"rhyton/prim"
	"rhyton/source"
)

// named are words with names, as the tests' codes call them: they have the numbers from 1 on.
func named() []struct {
	name string
	word api.Word
} {
	return []struct {
		name string
		word api.Word
	}{
		{"+", api.Word{Kind: wkPrim, N: 11}},
		{"/", api.Word{Kind: wkPrim, N: 14}},
		{"dup", api.Word{Kind: wkPrim, N: 28}},
		{"drop", api.Word{Kind: wkPrim, N: 29}},
		{"depth", api.Word{Kind: wkPrim, N: 42}},
		{".", api.Word{Kind: wkPrim, N: 91}},
		{">r", api.Word{Kind: wkCtl, N: ctToR}},
		{"r>", api.Word{Kind: wkCtl, N: ctFromR}},
		{"r@", api.Word{Kind: wkCtl, N: ctCopyR}},
		{"i", api.Word{Kind: wkCtl, N: ctI}},
		{"j", api.Word{Kind: wkCtl, N: ctJ}},
		{"unloop", api.Word{Kind: wkCtl, N: ctUnloop}},
		{"execute", api.Word{Kind: wkCtl, N: ctExecute}},
		{"catch", api.Word{Kind: wkCtl, N: ctCatch}},
		{"throw", api.Word{Kind: wkCtl, N: ctThrow}},
		{"if", api.Word{Kind: wkFlow, N: 1}},
		{"evaluate", api.Word{Kind: wkHost, N: 29}},
		{"bye", api.Word{Kind: wkHost, N: 43}},
		{"x", api.Word{Kind: wkCell, W: 42}},
		{"v", api.Word{Kind: wkValue, W: -42}},
		{"none", api.Word{Kind: wkDefer}},
		{"alias", api.Word{Kind: wkDefer, N: 3}},
	}
}

// number is the number of a word of named.
func number(name string) int {
	for i, x := range named() {
		if x.name == name {
			return i + 1
		}
	}
	n, err := strconv.Atoi(name)
	if err != nil {
		panic("no word " + name)
	}
	return n
}

// code is a definition, as layer 10 writes it; the words that it calls, and cells that are their numbers, may be written by their names.
func code(s string) api.Def {
	names := strings.Fields("lit call jump zero do qdo loop plus leave of drop locals local to exit")
	l := []api.Ins{}
	f := strings.Fields(s)
	for i := 0; i < len(f); i += 2 {
		op := slices.Index(names, f[i]) + 1
		n := number(f[i+1])
		if op == opLit {
			l = append(l, api.Ins{Op: opLit, W: api.Cell(n)})
		} else {
			l = append(l, api.Ins{Op: uint8(op), A: n})
		}
	}
	return api.Def{L: l}
}

// basic is an engine with the words of named.
func basic(t *testing.T) *watched {
	t.Helper()
	w := made(t)
	for i, x := range named() {
		if xt := w.add(x.word); xt != i+1 {
			t.Fatalf("Add(%s) = %d", x.name, xt)
		}
	}
	return w
}

// colon adds a word of a definition.
func (w *watched) colon(s string) int {
	w.Helper()
	return w.add(api.Word{Kind: wkColon, N: w.define(code(s))})
}

// begun is an engine in which a word of a definition is next, upon some cells.
func begun(t *testing.T, s string, l ...api.Cell) *watched {
	t.Helper()
	w := basic(t)
	w.put(l...)
	w.exec(w.colon(s))
	return w
}

func (w *watched) stack(after string, l ...api.Cell) {
	w.Helper()
	if got := w.s.Stack().All(); !slices.Equal(got, l) {
		w.Errorf("after %s the stack is %d, want %d", after, got, l)
	}
}

func ran() api.Status                { return api.Status{Kind: enRan} }
func halt() api.Status               { return api.Status{Kind: enHalt} }
func dead(e api.Errno) api.Status    { return api.Status{Kind: enDead, N: int(e)} }
func host(kind, n int) api.Status    { return api.Status{Kind: enHost, Sort: kind, N: n} }
func cells(l ...api.Cell) []api.Cell { return l }

// row is a code, the stack ahead of it and after it, and how it ends, after how many steps that end otherwise.
type row struct {
	code          string
	before, after []api.Cell
	end           api.Status
	steps         int
}

func rows(t *testing.T, l []row) {
	t.Helper()
	for _, x := range l {
		w := begun(t, x.code, x.before...)
		steps := 0
		end := w.step()
		for ; end.Kind == enRan; end = w.step() {
			steps++
		}
		if end != x.end || steps != x.steps {
			t.Errorf("%s upon %d ends by %+v after %d steps, want %+v after %d", x.code, x.before, end, steps, x.end, x.steps)
		}
		w.stack(x.code, x.after...)
	}
}

// full are so many cells.
func full(n int) []api.Cell {
	l := make([]api.Cell, n)
	for i := range l {
		l[i] = api.Cell(1000 + i)
	}
	return l
}

// with is a list and some cells behind it.
func with(l []api.Cell, more ...api.Cell) []api.Cell { return append(slices.Clone(l), more...) }

// TestExample: the chapter's example.
func TestExample(t *testing.T) {
	s, _ := prim.New(1024)
	g := engine.New(s, source.New())
	n, e := g.Define(api.Def{L: []api.Ins{{Op: api.OpLit, W: 5}, {Op: api.OpExit}}})
	if n != 1 || e != ok {
		t.Fatalf("Define = %d, %d", n, e)
	}
	xt, e := g.Add(api.Word{Kind: api.WkColon, N: n})
	if xt != 1 || e != ok {
		t.Fatalf("Add = %d, %d", xt, e)
	}
	if e := g.Exec(xt); e != ok {
		t.Fatalf("Exec = %d", e)
	}
	for i, kind := range []int{enRan, enRan, enRan, enRan, enHalt} {
		if got := g.Step(); got != (api.Status{Kind: kind}) {
			t.Errorf("step %d = %+v, want %d", i, got, kind)
		}
	}
	if l := s.Stack().All(); !slices.Equal(l, cells(5)) {
		t.Errorf("the stack is %d", l)
	}
}

// TestP151New: P15.1, an engine has nothing at first, and each is another one.
func TestP151New(t *testing.T) {
	a, b := made(t), made(t)
	a.kept()
	if got := a.step(); got != halt() {
		t.Errorf("Step() of a new engine = %+v", got)
	}
	a.exec(0)
	a.exec(1)
	a.add(api.Word{Kind: wkCell, W: 3})
	a.define(code("exit 0"))
	a.exec(1)
	b.kept()
	b.exec(1)
	if got := b.step(); got != halt() {
		t.Errorf("Step() of another engine = %+v", got)
	}
	a.step()
	a.stack("the word", 3)
	b.same("steps of another one")
}

// TestP151Shared: P15.1 and P15.6, the state and the input are those that New was given, and the frames are the engine's own.
func TestP151Shared(t *testing.T) {
	w := made(t)
	if w.g.State() != w.s {
		t.Error("State() is another one")
	}
	w.put(1, 2)
	w.exec(w.add(api.Word{Kind: wkPrim, N: 11}))
	w.step()
	if x, e := w.g.State().Stack().Pop(); x != 3 || e != ok {
		t.Errorf("the top cell is %d, %d", x, e)
	}
	f := w.g.Frames()
	f.Push(api.Frame{Kind: frToken, A: 7})
	if got := w.g.Step(); got != (api.Status{Kind: enWait, Sort: frToken}) || w.g.Frames() != f {
		t.Errorf("Step() upon a frame of mine = %+v", got)
	}
	s, _ := prim.New(1024)
	in := source.New()
	a, b := engine.New(s, in), engine.New(s, in)
	a.Frames().Push(api.Frame{Kind: frCall})
	if b.Frames().Depth() != 0 || a.State() != s || b.State() != s {
		t.Error("two engines on one state share frames")
	}
}

// someWords are words of all kinds, valid ones and others.
func someWords() []api.Word {
	l := []api.Word{}
	for kind := -2; kind <= 12; kind++ {
		for _, n := range []int{math.MinInt, -2, -1, 0, 1, 2, 3, 4, 8, 9, 10, 17, 18, 27, 28, 46, 47, 48, 106, 107, 108, 109, 300, 301, 600, 601, 1 << 31, 1<<32 + 1, math.MaxInt} {
			l = append(l, api.Word{Kind: kind, N: n}, api.Word{Kind: kind, N: n, W: math.MinInt64}, api.Word{Kind: kind, N: n, W: 1})
		}
	}
	return append(l, api.Word{Kind: math.MaxInt, N: 1}, api.Word{Kind: math.MinInt, N: 1}, api.Word{Kind: 1<<32 + 1, N: 1}, api.Word{Kind: 256 + wkPrim, N: 1})
}

// TestP151Valid: P15.1, every word of layer 12, and at every edge; a word may not be the number of a definition that is not there, nor of a word.
func TestP151Valid(t *testing.T) {
	for _, x := range someWords() {
		w := made(t)
		w.add(x)
		w.kept()
	}
	w := made(t)
	w.add(api.Word{Kind: wkCell, W: 9})
	w.add(api.Word{Kind: wkValue, W: 9})
	w.define(code("exit 0"))
	w.define(code("lit 3 exit 0"))
	for _, x := range someWords() {
		w.cut(2, 2)
		w.add(x)
		w.set(2, x)
		w.set(1, x)
		w.set(0, x)
		w.kept()
	}
}

// TestP151Rows: P15.1, which words are valid, written by hand.
func TestP151Rows(t *testing.T) {
	g := made(t).g
	g.Define(code("exit 0"))
	for _, x := range []struct {
		word api.Word
		want api.Errno
	}{
		{api.Word{}, errArg},
		{api.Word{Kind: wkPrim}, errArg},
		{api.Word{Kind: wkPrim, N: 1, W: 5}, ok},
		{api.Word{Kind: wkPrim, N: 107}, ok},
		{api.Word{Kind: wkPrim, N: 108}, errArg},
		{api.Word{Kind: wkCtl, N: 9}, ok},
		{api.Word{Kind: wkCtl, N: 10}, errArg},
		{api.Word{Kind: wkFlow, N: 17}, ok},
		{api.Word{Kind: wkFlow, N: 18}, errArg},
		{api.Word{Kind: wkHost, N: 47}, ok},
		{api.Word{Kind: wkHost, N: 48}, errArg},
		{api.Word{Kind: wkColon, N: 0}, errArg},
		{api.Word{Kind: wkColon, N: 1, W: 5}, ok},
		{api.Word{Kind: wkColon, N: 2}, errArg},
		{api.Word{Kind: wkDoes, N: 1}, ok},
		{api.Word{Kind: wkDoes, N: 2}, errArg},
		{api.Word{Kind: wkDoes, N: 0}, errArg},
		{api.Word{Kind: wkCell, W: -1}, ok},
		{api.Word{Kind: wkCell, N: 1}, errArg},
		{api.Word{Kind: wkValue, W: -1}, ok},
		{api.Word{Kind: wkValue, N: -1}, errArg},
		{api.Word{Kind: wkDefer, W: 4}, ok},
		{api.Word{Kind: wkDefer, N: 1}, ok},
		{api.Word{Kind: wkDefer, N: 10}, ok},
		{api.Word{Kind: wkDefer, N: 13}, errArg},
		{api.Word{Kind: wkDefer, N: -1}, errArg},
		{api.Word{Kind: 10}, errArg},
		{api.Word{Kind: -1}, errArg},
	} {
		if xt, e := g.Add(x.word); e != x.want || (xt > 0) != (e == ok) {
			t.Errorf("Add(%+v) = %d, %d, want %d", x.word, xt, e, x.want)
		}
	}
	if words, defs := g.Many(); words != 12 || defs != 1 {
		t.Errorf("Many() = %d, %d", words, defs)
	}
	if e := g.Set(12, api.Word{Kind: wkDefer, N: 12}); e != ok {
		t.Errorf("a word that stands for itself: %d", e)
	}
	if e := g.Set(13, api.Word{}); e != errNone {
		t.Errorf("Set of no word = %d", e)
	}
	if e := g.Set(12, api.Word{}); e != errArg {
		t.Errorf("Set of a word that is not valid = %d", e)
	}
	if x, is := g.Word(12); x != (api.Word{Kind: wkDefer, N: 12}) || !is {
		t.Errorf("Word(12) = %+v, %v", x, is)
	}
	if x, is := g.Word(2); x != (api.Word{Kind: wkPrim, N: 107}) || !is {
		t.Errorf("Word(2) = %+v, %v", x, is)
	}
}

// TestP151Room: P15.1, 600 words and 300 definitions; what is not valid is told first.
func TestP151Room(t *testing.T) {
	w := made(t)
	for n := range mostWords + 3 {
		w.add(api.Word{Kind: wkCell, W: api.Cell(n)})
	}
	w.add(api.Word{})
	w.add(api.Word{Kind: wkDefer, N: mostWords})
	w.set(mostWords, api.Word{Kind: wkDefer, N: mostWords})
	w.kept()
	w.cut(mostWords-1, 0)
	w.add(api.Word{Kind: wkDefer, N: mostWords})
	if xt := w.add(api.Word{Kind: wkDefer, N: mostWords - 1}); xt != mostWords {
		t.Errorf("the last word is %d", xt)
	}
	for n := range mostDefs + 3 {
		w.define(api.Def{L: []api.Ins{{Op: opLit, W: api.Cell(n)}, {Op: opCall, A: 1 + n}, {Op: opExit}}})
	}
	w.define(api.Def{})
	w.kept()
	w.cut(3, mostDefs-1)
	if n := w.define(code("lit 7 exit 0")); n != mostDefs {
		t.Errorf("the last definition is %d", n)
	}
	w.define(code("lit 8 exit 0"))
	w.kept()
}

// TestP151Define: P15.1, every operation comes back as it was given, with every A and W that it may have; what is not valid does not come in.
func TestP151Define(t *testing.T) {
	w := basic(t)
	for xt := w.add(api.Word{Kind: wkCell}); xt > 0 && xt < mostWords; {
		xt = w.add(api.Word{Kind: wkCell})
	}
	for _, s := range []string{
		"exit 0",
		"jump 0",
		"lit 5 exit 0",
		"locals 16 local 15 to 15 local 0 to 0 exit 0",
		"lit 1 zero 3 exit 0 drop 0 call 600 call 1 exit 0",
		"lit 3 lit 0 do 0 call i loop 3 exit 0",
		"lit 3 lit 0 qdo 6 call i plus 3 leave 6 exit 0",
		"lit 3 lit 0 do 0 leave 4 exit 0",
		"lit 3 lit 0 of 4 exit 0 exit 0",
		"",
		"lit 5",
		"call 601 exit 0",
		"call 0 exit 0",
		"jump 2 exit 0",
		"do 0 exit 0",
		"locals 17 exit 0",
		"local 0 exit 0",
		"exit 1",
	} {
		w.define(code(s))
	}
	for _, x := range []api.Cell{0, 1, -1, 255, 256, 1 << 31, 1 << 32, 1 << 55, 1 << 56, math.MinInt64, math.MaxInt64} {
		w.define(api.Def{L: []api.Ins{{Op: opLit, W: x}, {Op: opExit}}})
	}
	w.define(api.Def{L: []api.Ins{{Op: opExit, W: 1}}})
	w.define(api.Def{L: []api.Ins{{Op: opLit, A: 1}, {Op: opExit}}})
	w.define(api.Def{L: []api.Ins{{Op: 0}, {Op: opExit}}})
	w.define(api.Def{L: []api.Ins{{Op: 16}, {Op: opExit}}})
	long := api.Def{}
	for n := range 499 {
		long.L = append(long.L, api.Ins{Op: opLit, W: api.Cell(n)})
	}
	long.L = append(long.L, api.Ins{Op: opJump, A: 499})
	w.define(long)
	long.L = append(long.L, api.Ins{Op: opExit})
	w.define(long)
	w.define(code("lit 6 exit 0"))
	w.kept()
	if d, is := w.g.Def(3); !is || !slices.Equal(d.L, []api.Ins{{Op: api.OpLit, W: 5}, {Op: api.OpExit}}) {
		t.Errorf("Def(3) = %+v, %v", d, is)
	}
}

// TestP151Cut: P15.1, to every number, and to those that there are not.
func TestP151Cut(t *testing.T) {
	for words := -1; words <= 5; words++ {
		for defs := -1; defs <= 4; defs++ {
			w := made(t)
			for n := range 4 {
				w.add(api.Word{Kind: wkCell, W: api.Cell(n)})
			}
			w.define(code("exit 0"))
			w.define(code("lit 1 lit 2 exit 0"))
			w.define(code("lit 3 exit 0"))
			w.cut(words, defs)
			w.kept()
			w.add(api.Word{Kind: wkColon, N: 1})
			w.define(code("lit 4 lit 5 lit 6 exit 0"))
			w.kept()
			w.cut(math.MaxInt, 0)
			w.cut(0, math.MaxInt)
			w.cut(math.MinInt, math.MinInt)
			w.kept()
		}
	}
}

// TestP152Exec: P15.2, the word is next, and the last one that was so counts.
func TestP152Exec(t *testing.T) {
	w := basic(t)
	for _, xt := range []int{math.MinInt, -1, 0, len(named()) + 1, 600, 601, 1<<32 + 1, math.MaxInt} {
		w.exec(xt)
		if got := w.step(); got != halt() {
			t.Errorf("Step() after Exec(%d) = %+v", xt, got)
		}
	}
	w.exec(number("x"))
	w.exec(number("v"))
	w.exec(0)
	w.step()
	w.stack("Exec of two", -42)
	if got := w.step(); got != halt() {
		t.Errorf("the step behind = %+v", got)
	}
}

// TestP152Within: P15.2, a word that is next comes ahead of the position, which stays.
func TestP152Within(t *testing.T) {
	w := begun(t, "lit 1 lit 2 exit 0")
	w.step()
	w.step()
	w.exec(number("x"))
	w.step()
	w.stack("a word within", 1, 42)
	w.exec(w.colon("lit 3 exit 0"))
	w.run(100)
	w.stack("a definition within", 1, 42, 3, 2)
}

// TestP152Throw: P15.2, with a frame that catches and without, at all depths of the stack and of the input.
func TestP152Throw(t *testing.T) {
	w := basic(t)
	xt := w.colon("lit 8 exit 0")
	for _, e := range []api.Errno{0, 1, -1, -3, 77, math.MinInt, math.MaxInt} {
		for _, depth := range []int{math.MinInt, -1, 0, 1, 2, 3, 4, 126, 127} {
			for _, sources := range []int{math.MinInt, -1, 0, 1, 2, 3, 4, math.MaxInt} {
				for _, at := range []api.Cell{math.MinInt64, -1, 0, 1, 5, 6, math.MaxInt64} {
					w.in.Cut(0)
					w.m.sources = nil
					w.put(5, 6, 7)
					w.exec(xt)
					w.open("abc de")
					w.open("fghij")
					w.open("k")
					w.seek(1)
					w.frame(api.Frame{Kind: frToken, A: 1})
					w.frame(api.Frame{Kind: frCatch, A: depth, B: sources, X: at, Y: 9})
					w.frame(api.Frame{Kind: frLoop})
					w.step()
					w.exec(number("x"))
					if got := w.throw(e); got != ran() {
						t.Fatalf("Throw(%d) = %+v", e, got)
					}
					w.step()
					if got := w.throw(e); got != dead(e) {
						t.Fatalf("Throw(%d) of nothing that catches = %+v", e, got)
					}
					if got := w.step(); got != halt() {
						t.Fatalf("Step() after that = %+v", got)
					}
				}
			}
		}
	}
}

// TestP152Rows: P15.2, plain cases written by hand.
func TestP152Rows(t *testing.T) {
	s, _ := prim.New(1024)
	in := source.New()
	g := engine.New(s, in)
	in.Open("one two")
	in.Open("three")
	g.Frames().Push(api.Frame{Kind: frCell, X: 4})
	g.Frames().Push(api.Frame{Kind: frCatch, A: 2, B: 1, X: 3})
	g.Frames().Push(api.Frame{Kind: frCell, X: 5})
	s.Stack().Put(1, 2, 3, 4)
	if got := g.Throw(-7); got != (api.Status{Kind: enRan}) {
		t.Errorf("Throw(-7) = %+v", got)
	}
	if l := s.Stack().All(); !slices.Equal(l, cells(1, 2, -7)) {
		t.Errorf("the stack is %d", l)
	}
	if in.Depth() != 1 || in.Word() != "two" {
		t.Errorf("the input is %q at %d", in.Text(), in.In())
	}
	if x, is := g.Frames().Top(); !is || x.X != 4 {
		t.Errorf("the top frame is %+v, %v", x, is)
	}
	if got := g.Throw(8); got != (api.Status{Kind: enDead, N: 8}) {
		t.Errorf("Throw(8) = %+v", got)
	}
	if s.Stack().Depth() != 0 || g.Frames().Depth() != 0 || in.Depth() != 1 {
		t.Errorf("%d cells, %d frames, %d sources", s.Stack().Depth(), g.Frames().Depth(), in.Depth())
	}
}

// TestP152Full: P15.2, a frame as deep as the whole stack: the code has no room, and is lost.
func TestP152Full(t *testing.T) {
	for _, depth := range []int{mostCells, mostCells + 1, math.MaxInt} {
		w := basic(t)
		w.put(5)
		w.frame(api.Frame{Kind: frCatch, A: depth})
		w.throw(9)
		if n := w.s.Stack().Depth(); n != mostCells {
			t.Errorf("the stack has %d cells", n)
		}
	}
}

// TestP153Gone: P15.3, a word that is next and does not exist any more.
func TestP153Gone(t *testing.T) {
	w := basic(t)
	last := w.add(api.Word{Kind: wkCell, W: 5})
	w.put(1)
	w.exec(last)
	w.cut(last-1, 0)
	if got := w.step(); got != dead(thMem) {
		t.Errorf("Step() = %+v", got)
	}
	w.put(1, 2)
	w.add(api.Word{Kind: wkCell, W: 5})
	w.frame(api.Frame{Kind: frCatch, A: 1})
	w.exec(last)
	w.cut(last-1, 0)
	if got := w.step(); got != ran() {
		t.Errorf("Step() = %+v", got)
	}
	w.stack("what catches", 1, -9)
	if got := w.step(); got != halt() {
		t.Errorf("Step() = %+v", got)
	}
}

// TestP153Wait: P15.3, a frame of what reads stops the position, but not the word that is next.
func TestP153Wait(t *testing.T) {
	for _, kind := range []int{frToken, frRecog} {
		w := begun(t, "lit 1 lit 2 exit 0")
		w.frame(api.Frame{Kind: kind, A: 3, B: 4})
		want := api.Status{Kind: enWait, Sort: kind}
		if got := w.step(); got != ran() {
			t.Errorf("the word that is next: %+v", got)
		}
		w.step()
		w.frame(api.Frame{Kind: kind, A: 5, X: 6})
		for range 3 {
			if got := w.step(); got != want {
				t.Errorf("Step() = %+v, want %+v", got, want)
			}
		}
		w.exec(number("x"))
		w.step()
		if got := w.step(); got != want {
			t.Errorf("Step() after a word = %+v, want %+v", got, want)
		}
		w.popFrame()
		w.run(3)
		w.stack("the frame is gone", 1, 42, 2)
		if got := w.step(); got != want {
			t.Errorf("Step() at the end = %+v, want %+v", got, want)
		}
		w.popFrame()
		if got := w.step(); got != halt() {
			t.Errorf("Step() = %+v", got)
		}
	}
}

// TestP153Top: P15.3, the top frame decides where there is no position.
func TestP153Top(t *testing.T) {
	for _, kind := range []int{math.MinInt, -1, 0, frCell, frLoop, frLocals, 8, 256 + frCall, math.MaxInt} {
		w := basic(t)
		w.put(1, 2)
		w.frame(api.Frame{Kind: frCall})
		w.frame(api.Frame{Kind: kind, L: cells(1)})
		if got := w.step(); got != dead(thBack) {
			t.Errorf("Step() upon a frame %d = %+v", kind, got)
		}
		w.put(3, 4)
		w.frame(api.Frame{Kind: frCatch, A: 1})
		w.frame(api.Frame{Kind: kind})
		if got := w.step(); got != ran() {
			t.Errorf("Step() upon a frame %d = %+v", kind, got)
		}
		w.stack("what catches", 3, -25)
	}
	w := basic(t)
	w.put(7)
	w.frame(api.Frame{Kind: frCatch, A: 5, B: 6, X: 7})
	if got := w.step(); got != ran() {
		t.Errorf("Step() upon a frame that catches = %+v", got)
	}
	w.stack("it", 7, 0)
	if got := w.step(); got != halt() {
		t.Errorf("Step() = %+v", got)
	}
}

// TestP153Back: P15.3, to every position, also to those that do not exist.
func TestP153Back(t *testing.T) {
	for _, def := range []int{math.MinInt, -1, 0, 1, 2, 3, 4, 1<<32 + 1, math.MaxInt} {
		for _, index := range []int{math.MinInt, -1, 0, 1, 2, 3, 4, 5, 1 << 32, math.MaxInt} {
			w := basic(t)
			w.define(code("lit 1 lit 2 exit 0"))
			w.define(code("lit 3 call drop lit 4 exit 0"))
			w.define(code("lit 5 exit 0"))
			w.frame(api.Frame{Kind: frCall, A: def, B: index, X: 8})
			if got := w.step(); got != ran() {
				t.Errorf("Step() back to %d, %d = %+v", def, index, got)
			}
			w.exec(number("dup"))
			w.run(100)
			w.frame(api.Frame{Kind: frCall, A: def, B: index})
			w.step()
			w.exec(w.colon("lit 6 exit 0"))
			w.run(100)
		}
	}
	w := basic(t)
	w.frame(api.Frame{Kind: frCall, A: 0, B: 5})
	w.step()
	if got := w.step(); got != halt() {
		t.Errorf("Step() back to nowhere = %+v", got)
	}
	w.frame(api.Frame{Kind: frCall, A: 1, B: 5})
	w.step()
	if got := w.step(); got != dead(thBack) {
		t.Errorf("Step() at a position that does not exist = %+v", got)
	}
}

// TestP153Cut: P15.3, the position goes with its definition, and comes back with one of the same number that is long enough.
func TestP153Cut(t *testing.T) {
	for _, s := range []string{"", "exit 0", "lit 7 lit 8 exit 0", "lit 7 lit 8 lit 9 exit 0"} {
		w := begun(t, "lit 1 lit 2 exit 0")
		w.step()
		w.step()
		w.step()
		w.cut(3, 0)
		w.define(code(s))
		w.run(100)
	}
	w := begun(t, "lit 1 lit 2 exit 0")
	w.step()
	w.cut(3, 0)
	if got := w.step(); got != dead(thBack) {
		t.Errorf("Step() in a definition that is gone = %+v", got)
	}
}

// TestP154Kinds: P15.4, a word of every kind, as the one that is next and as one that is called.
func TestP154Kinds(t *testing.T) {
	rows(t, []row{
		{"call dup exit 0", cells(3), cells(3, 3), halt(), 4},
		{"call dup exit 0", nil, nil, dead(thUnder), 1},
		{"call / exit 0", cells(3, 0), nil, dead(thZero), 1},
		{"call if exit 0", cells(3), cells(3), host(wkFlow, 1), 1},
		{"call bye exit 0", cells(3), cells(3), host(wkHost, 43), 1},
		{"call evaluate exit 0", cells(3), cells(3), host(wkHost, 29), 1},
		{"call x exit 0", cells(3), cells(3, 42), halt(), 4},
		{"call v exit 0", cells(3), cells(3, -42), halt(), 4},
		{"call none exit 0", cells(3), nil, dead(thKind), 1},
		{"call alias exit 0", cells(3), cells(3, 3), halt(), 5},
		{"call alias exit 0", nil, nil, dead(thUnder), 2},
		{"call x exit 0", full(127), with(full(127), 42), halt(), 4},
		{"call x exit 0", full(128), nil, dead(thOver), 1},
		{"call v exit 0", full(128), nil, dead(thOver), 1},
	})
	for _, x := range named() {
		w := basic(t)
		w.put(5, 4, 3)
		w.exec(number(x.name))
		w.run(10)
		w = begun(t, "call "+x.name+" exit 0", 5, 4, 3)
		w.run(10)
	}
}

// TestP154Colon: P15.4, definitions that call others come back behind the call; without a position there is none to come back to.
func TestP154Colon(t *testing.T) {
	w := basic(t)
	a := w.colon("lit 1 exit 0")
	b := w.colon("lit 2 call " + strconv.Itoa(a) + " lit 3 exit 0")
	c := w.colon("call " + strconv.Itoa(b) + " call " + strconv.Itoa(a) + " exit 0")
	w.exec(c)
	w.step()
	if x, is := w.g.Frames().Top(); !is || !sameFrame(x, api.Frame{Kind: frCall}) {
		t.Errorf("the frame of the first call is %+v, %v", x, is)
	}
	w.step()
	if x, is := w.g.Frames().Top(); !is || !sameFrame(x, api.Frame{Kind: frCall, A: 3, B: 1}) {
		t.Errorf("the frame of the second call is %+v, %v", x, is)
	}
	if got := w.run(100); got != halt() {
		t.Errorf("it ends by %+v", got)
	}
	w.stack("three definitions", 2, 1, 3, 1)
}

// TestP154Does: P15.4, the cell is pushed ahead of the definition, or neither is done.
func TestP154Does(t *testing.T) {
	w := basic(t)
	n := w.define(code("call dup exit 0"))
	xt := w.add(api.Word{Kind: wkDoes, N: n, W: 9})
	w.put(8)
	w.exec(xt)
	w.step()
	w.stack("the first step", 8, 9)
	w.run(100)
	w.stack("all steps", 8, 9, 9)
	for _, frames := range []int{0, mostFrames - 3, mostFrames - 2, mostFrames - 1} {
		for _, depth := range []int{0, mostCells - 1, mostCells} {
			for _, defs := range []int{0, 1} {
				w.throw(1)
				w.put(full(depth)...)
				w.frame(api.Frame{Kind: frCatch, A: depth + 2})
				for range frames {
					w.frame(api.Frame{Kind: frCell})
				}
				w.cut(xt, defs)
				w.exec(xt)
				w.step()
				w.step()
				w.cut(xt, 0)
				w.define(code("call dup exit 0"))
			}
		}
	}
}

// TestP154Deep: P15.4, calls up to 128 frames; the next one is refused.
func TestP154Deep(t *testing.T) {
	w := basic(t)
	xt := w.add(api.Word{Kind: wkDefer})
	n := w.define(code("call " + strconv.Itoa(xt) + " exit 0"))
	w.set(xt, api.Word{Kind: wkColon, N: n})
	w.exec(xt)
	for range mostFrames {
		if got := w.step(); got != ran() {
			t.Fatalf("Step() = %+v", got)
		}
	}
	if got := w.step(); got != dead(thDeep) {
		t.Errorf("Step() = %+v", got)
	}
}

// TestP154Defer: P15.4, one that stands for none, for others, for itself, and for a word that is gone.
func TestP154Defer(t *testing.T) {
	w := basic(t)
	a := w.add(api.Word{Kind: wkDefer, N: number("x")})
	b := w.add(api.Word{Kind: wkDefer, N: a})
	w.exec(b)
	w.step()
	w.stack("the first step")
	w.step()
	w.stack("the second step")
	w.step()
	w.stack("the third step", 42)
	w.set(a, api.Word{Kind: wkDefer, N: b})
	w.exec(b)
	if got := w.run(1000); got != ran() {
		t.Errorf("words that stand for each other: %+v", got)
	}
	w.throw(1)
	w.set(a, api.Word{Kind: wkDefer, N: b})
	w.cut(a, 0)
	w.exec(a)
	if got := w.step(); got != dead(thMem) {
		t.Errorf("a word that stands for one that is gone: %+v", got)
	}
}

// TestP154Gone: P15.4, definitions and words that do not exist any more.
func TestP154Gone(t *testing.T) {
	for _, kind := range []int{wkColon, wkDoes} {
		w := basic(t)
		w.define(code("exit 0"))
		n := w.define(code("exit 0"))
		xt := w.add(api.Word{Kind: kind, N: n, W: 6})
		w.put(5)
		w.cut(xt, n-1)
		w.exec(xt)
		if got := w.step(); got != dead(thMem) {
			t.Errorf("a word of a definition that is gone: %+v", got)
		}
		w.put(5, 6)
		w.frame(api.Frame{Kind: frCatch, A: 3})
		w.exec(xt)
		w.step()
		w.stack("what catches", 5, 6, 0, -9)
	}
	w := basic(t)
	last := w.add(api.Word{Kind: wkCell, W: 5})
	n := w.define(code("call " + strconv.Itoa(last) + " exit 0"))
	w.set(1, api.Word{Kind: wkColon, N: n})
	w.cut(last-1, n)
	w.exec(1)
	w.step()
	if got := w.step(); got != dead(thMem) {
		t.Errorf("a call of a word that is gone: %+v", got)
	}
}

// TestP154Cells: P15.4, >r, r> and r@.
func TestP154Cells(t *testing.T) {
	rows(t, []row{
		{"call >r call r@ call r@ call r> exit 0", cells(7, 8), cells(7, 8, 8, 8), halt(), 7},
		{"call >r call >r call r> call r> exit 0", cells(7, 8), cells(7, 8), halt(), 7},
		{"call >r exit 0", nil, nil, dead(thUnder), 1},
		{"call >r exit 0", cells(7), nil, dead(thBack), 3},
		{"call r> exit 0", cells(7), nil, dead(thFrame), 1},
		{"call r@ exit 0", cells(7), nil, dead(thFrame), 1},
		{"lit 1 lit 0 do 0 call r@ loop 3 exit 0", nil, nil, dead(thFrame), 4},
		{"call >r call dup call r@ exit 0", full(128), nil, dead(thOver), 3},
		{"call >r call dup call r> exit 0", full(128), nil, dead(thOver), 3},
		{"locals 1 call r> exit 0", cells(7), nil, dead(thFrame), 2},
	})
}

// TestP154Loops: P15.4, i, j and unloop.
func TestP154Loops(t *testing.T) {
	rows(t, []row{
		{"lit 3 lit 1 do 0 call i loop 3 exit 0", nil, cells(1, 2), halt(), 10},
		{"lit 2 lit 0 do 0 lit 6 lit 5 do 0 call j call i loop 6 loop 3 exit 0", nil, cells(0, 5, 1, 5), halt(), 20},
		{"call i exit 0", cells(7), nil, dead(thLoop), 1},
		{"call j exit 0", cells(7), nil, dead(thLoop), 1},
		{"lit 3 lit 1 do 0 call j loop 3 exit 0", cells(7), nil, dead(thLoop), 4},
		{"lit 3 lit 1 do 0 call >r call i loop 3 exit 0", cells(7), nil, dead(thLoop), 5},
		{"do 0 call i leave 3 exit 0", full(128), with(full(126), 1127), halt(), 6},
		{"lit 3 lit 1 do 0 lit 9 lit 9 call i loop 3 exit 0", full(126), nil, dead(thOver), 6},
		{"call unloop exit 0", cells(7), nil, dead(thLoop), 1},
		{"call >r call unloop exit 0", cells(7), nil, dead(thLoop), 2},
		{"lit 3 lit 1 do 0 call unloop exit 0 loop 3 exit 0", cells(7), cells(7), halt(), 7},
	})
}

// TestP154Execute: P15.4, execute and throw.
func TestP154Execute(t *testing.T) {
	rows(t, []row{
		{"lit dup call execute exit 0", cells(7), cells(7, 7), halt(), 6},
		{"lit execute call execute exit 0", cells(7, 3), cells(7, 7), halt(), 7},
		{"call execute exit 0", nil, nil, dead(thUnder), 1},
		{"lit 0 call execute exit 0", cells(7), nil, dead(thMem), 2},
		{"lit -1 call execute exit 0", cells(7), nil, dead(thMem), 2},
		{"lit 24 call execute exit 0", cells(7), nil, dead(thMem), 2},
		{"lit 4294967299 call execute exit 0", cells(7), nil, dead(thMem), 2},
		{"lit 9223372036854775807 call execute exit 0", cells(7), nil, dead(thMem), 2},
		{"lit bye call execute exit 0", cells(7), cells(7), host(wkHost, 43), 3},
		{"lit none call execute exit 0", cells(7), nil, dead(thKind), 3},
		{"call throw exit 0", nil, nil, dead(thUnder), 1},
		{"lit 0 call throw exit 0", cells(7), cells(7), halt(), 5},
		{"lit 1 call throw exit 0", cells(7), nil, dead(1), 2},
		{"lit -9223372036854775808 call throw exit 0", cells(7), nil, dead(math.MinInt), 2},
	})
}

// TestP154Catch: P15.4, catch, with what is taken and pushed within; a cell that is not the number of a word remains taken.
func TestP154Catch(t *testing.T) {
	rows(t, []row{
		{"lit dup call catch lit 9 exit 0", cells(7), cells(7, 7, 0, 9), halt(), 9},
		{"lit + call catch lit 9 exit 0", cells(7), cells(7, -4, 9), halt(), 8},
		{"lit throw call catch lit 9 exit 0", cells(7, 5), cells(7, 0, 5, 9), halt(), 8},
		{"lit throw call catch lit 9 exit 0", cells(7, 0), cells(7, 0, 9), halt(), 9},
		{"lit execute call catch exit 0", cells(7, 99), cells(7, 0, -9), halt(), 7},
		{"lit catch call catch exit 0", cells(7, 99), cells(7, 0, -9), halt(), 7},
		{"lit catch call catch exit 0", cells(7, 3), cells(7, 7, 0, 0), halt(), 11},
		{"lit >r call catch exit 0", cells(7, 8), cells(7, 0, -25), halt(), 8},
		{"lit r> call catch exit 0", cells(7, 8), cells(7, 8, -6), halt(), 7},
		{"lit bye call catch exit 0", cells(7, 8), cells(7, 8), host(wkHost, 43), 3},
		{"call catch exit 0", nil, nil, dead(thUnder), 1},
		{"lit 0 call catch exit 0", cells(7), nil, dead(thMem), 2},
		{"lit 24 call catch exit 0", cells(7), nil, dead(thMem), 2},
		{"lit none call catch exit 0", cells(7), cells(7, -32), halt(), 7},
		{"lit x call catch exit 0", full(127), with(full(127), -3), halt(), 8},
		{"lit x call catch exit 0", full(126), with(full(126), 42, 0), halt(), 8},
	})
}

// TestP154Caught: P15.4, the frames of catch, and what it needs room for.
func TestP154Caught(t *testing.T) {
	w := begun(t, "lit 5 lit dup call catch exit 0", 7)
	w.open("one two")
	w.open("three four")
	w.seek(5)
	w.run(4)
	l := w.frames()
	want := []api.Frame{{Kind: frCall}, {Kind: frCall, A: 1, B: 3}, {Kind: frCatch, A: 2, B: 2, X: 5}}
	if !slices.EqualFunc(l, want, sameFrame) {
		t.Errorf("the frames are %+v, want %+v", l, want)
	}
	w = basic(t)
	w.put(7, 3)
	w.exec(number("catch"))
	w.step()
	if l, want := w.frames(), []api.Frame{{Kind: frCall}, {Kind: frCatch, A: 1}}; !slices.EqualFunc(l, want, sameFrame) {
		t.Errorf("the frames are %+v, want %+v", l, want)
	}
	for _, xt := range []api.Cell{3, 99} {
		for frames := mostFrames - 4; frames <= mostFrames; frames++ {
			w := basic(t)
			w.put(6, xt)
			w.frame(api.Frame{Kind: frCatch, A: 2})
			for len(w.m.frames) < frames {
				w.frame(api.Frame{Kind: frLoop, X: 1})
			}
			w.exec(number("catch"))
			w.run(5)
		}
	}
}

// TestP155Plain: P15.5, lit, call, jump, zero, of and drop.
func TestP155Plain(t *testing.T) {
	rows(t, []row{
		{"lit 5 exit 0", cells(7), cells(7, 5), halt(), 4},
		{"lit 5 exit 0", full(128), nil, dead(thOver), 1},
		{"jump 2 lit 5 lit 6 exit 0", cells(7), cells(7, 6), halt(), 5},
		{"zero 2 lit 5 lit 6 exit 0", cells(7, 0), cells(7, 6), halt(), 5},
		{"zero 2 lit 5 lit 6 exit 0", cells(7, 1), cells(7, 5, 6), halt(), 6},
		{"zero 2 lit 5 lit 6 exit 0", cells(7, math.MinInt64), cells(7, 5, 6), halt(), 6},
		{"zero 2 lit 5 lit 6 exit 0", nil, nil, dead(thUnder), 1},
		{"of 2 lit 5 lit 6 exit 0", cells(7, 8, 8), cells(7, 5, 6), halt(), 6},
		{"of 2 lit 5 lit 6 exit 0", cells(7, 8, 9), cells(7, 8, 6), halt(), 5},
		{"of 2 lit 5 lit 6 exit 0", cells(8), nil, dead(thUnder), 1},
		{"drop 0 exit 0", cells(7, 8), cells(7), halt(), 4},
		{"drop 0 exit 0", nil, nil, dead(thUnder), 1},
	})
	w := begun(t, "call drop jump 0", full(100)...)
	if got := w.run(300); got != dead(thUnder) {
		t.Errorf("a jump back: %+v", got)
	}
}

// TestP155Loops: P15.5, do, qdo, loop, plus and leave.
func TestP155Loops(t *testing.T) {
	rows(t, []row{
		{"do 0 call i loop 1 exit 0", cells(7, 3, 1), cells(7, 1, 2), halt(), 8},
		{"do 0 call i loop 1 exit 0", cells(7), nil, dead(thUnder), 1},
		{"do 0 call i exit 0 loop 1 exit 0", cells(7, 3, 1), nil, dead(thBack), 4},
		{"qdo 4 call i loop 1 lit 9 exit 0", cells(7, 3, 1), cells(7, 1, 2, 9), halt(), 9},
		{"qdo 4 call i loop 1 lit 9 exit 0", cells(7, 3, 3), cells(7), halt(), 4},
		{"qdo 3 call i loop 1 lit 9 exit 0", cells(7, 3, 3), cells(7, 9), halt(), 5},
		{"qdo 3 call i loop 1 exit 0", cells(3), nil, dead(thUnder), 1},
		{"do 0 call i lit 3 plus 1 exit 0", cells(7, 0), cells(0, 3, 6), halt(), 13},
		{"do 0 call i lit -3 plus 1 exit 0", cells(0, 7), cells(7, 4, 1), halt(), 13},
		{"do 0 plus 1 exit 0", cells(7, 0), nil, dead(thUnder), 2},
		{"do 0 call i leave 4 loop 1 lit 9 exit 0", cells(7, 3, 1), cells(7, 1, 9), halt(), 7},
		{"do 0 call unloop leave 3 exit 0", cells(7, 3, 1), nil, dead(thLoop), 3},
		{"do 0 call unloop loop 1 exit 0", cells(7, 3, 1), nil, dead(thLoop), 3},
		{"do 0 call unloop lit 1 plus 1 exit 0", cells(7, 3, 1), nil, dead(thLoop), 4},
		{"do 0 call >r leave 3 exit 0", cells(7, 3, 1), nil, dead(thLoop), 3},
	})
	w := begun(t, "do 0 exit 0 loop 1 exit 0", 4, 5)
	w.run(2)
	if x, is := w.g.Frames().Top(); !is || !sameFrame(x, api.Frame{Kind: frLoop, X: 5, Y: 4}) {
		t.Errorf("the frame of the loop is %+v, %v", x, is)
	}
}

// TestP155Locals: P15.5, locals, local, to and exit.
func TestP155Locals(t *testing.T) {
	rows(t, []row{
		{"locals 3 local 0 local 1 local 2 exit 0", cells(6, 7, 8, 9), cells(6, 7, 8, 9), halt(), 7},
		{"locals 3 local 2 local 0 exit 0", cells(6, 7, 8, 9), cells(6, 9, 7), halt(), 6},
		{"locals 2 lit 5 to 1 lit 4 to 0 local 1 local 0 exit 0", cells(7, 8), cells(5, 4), halt(), 10},
		{"locals 2 exit 0", cells(7), nil, dead(thUnder), 1},
		{"locals 1 to 0 exit 0", cells(7), nil, dead(thUnder), 2},
		{"locals 1 to 0 local 0 exit 0", cells(6, 7), cells(6), halt(), 6},
		{"locals 1 lit 9 local 0 exit 0", full(128), nil, dead(thOver), 3},
		{"locals 1 local 0 exit 0", full(128), full(128), halt(), 5},
		{"locals 1 local 0 do 0 local 0 loop 3 exit 0", cells(2, 1), cells(1), halt(), 8},
		{"locals 16 local 15 exit 0", full(17), with(full(1), 1016), halt(), 5},
	})
	w := begun(t, "locals 2 exit 0", 7, 8, 9)
	w.run(2)
	if x, is := w.g.Frames().Top(); !is || !sameFrame(x, api.Frame{Kind: frLocals, L: cells(8, 9)}) {
		t.Errorf("the frame of the locals is %+v, %v", x, is)
	}
	w = begun(t, "locals 2 local 1 to 0 exit 0", 7, 8, 9)
	w.run(2)
	w.popFrame()
	w.put(5)
	if got := w.step(); got != dead(thFrame) {
		t.Errorf("a local without its frame: %+v", got)
	}
}

// TestP155Exit: P15.5, only locals go with the definition, and only its own: those of whoever called stay.
func TestP155Exit(t *testing.T) {
	w := basic(t)
	inner := w.colon("lit 1 exit 0")
	own := w.colon("locals 1 lit 2 exit 0")
	w.put(5, 6)
	w.exec(w.colon("locals 1 call " + strconv.Itoa(inner) + " call " + strconv.Itoa(own) + " local 0 exit 0"))
	if got := w.run(100); got != halt() {
		t.Errorf("it ends by %+v", got)
	}
	w.stack("three definitions", 5, 2, 6)
	for _, kind := range []int{frCall, frCell, frLoop, frLocals, frCatch, 0, 8} {
		w := begun(t, "exit 0 exit 0", 5)
		w.step()
		w.frame(api.Frame{Kind: frCall})
		w.frame(api.Frame{Kind: kind, L: cells(1)})
		w.step()
		w.run(10)
	}
}

// TestP156Undone: P15.6, what a layer refuses is done neither in part: a frame that catches deeper than the stack is shows what is left on it.
func TestP156Undone(t *testing.T) {
	for _, x := range []struct {
		code   string
		frames int
		before []api.Cell
		after  []api.Cell
	}{
		{"call >r exit 0", 126, cells(7), cells(7, 0, 0, -5)},
		{"do 0 jump 1", 126, cells(7, 8), cells(7, 8, 0, -5)},
		{"qdo 0 loop 1 exit 0", 126, cells(7, 8), cells(7, 8, 0, -5)},
		{"locals 3 exit 0", 126, cells(7, 8, 9), cells(7, 8, 9, -5)},
		{"locals 4 exit 0", 0, cells(7, 8, 9), cells(7, 8, 9, -4)},
		{"do 0 call unloop plus 1 exit 0", 0, cells(5, 7, 8), cells(5, 0, 0, -26)},
		{"call / exit 0", 0, cells(7, 0), cells(7, 0, 0, -10)},
		{"of 0 exit 0", 0, cells(7), cells(7, 0, 0, -4)},
		{"call r> exit 0", 0, cells(7), cells(7, 0, 0, -6)},
		{"call execute exit 0", 0, cells(7, 99), cells(7, 0, 0, -9)},
		{"call catch exit 0", 0, cells(7, 99), cells(7, 0, 0, -9)},
		{"call catch exit 0", 126, cells(7, 3), cells(7, 0, 0, -5)},
		{"call catch exit 0", 125, cells(7, 3), cells(7, 0, 0, -5)},
		{"call throw exit 0", 0, cells(7, 8), cells(7, 0, 0, 8)},
		{"call none exit 0", 0, cells(7, 8), cells(7, 8, 0, -32)},
	} {
		w := begun(t, x.code, x.before...)
		w.frame(api.Frame{Kind: frCatch, A: 3})
		for range x.frames {
			w.frame(api.Frame{Kind: frCell})
		}
		for len(w.m.frames) > 0 {
			w.step()
		}
		w.stack(x.code, x.after...)
	}
	w := begun(t, "locals 1 to 0 exit 0", 7, 8, 9)
	w.frame(api.Frame{Kind: frCatch, A: 3})
	w.run(2)
	w.popFrame()
	w.step()
	w.stack("a local without its frame", 7, 8, 0, -6)
}

// TestP156Put: P15.6, a cell that does not fit leaves its frame where it is, which may be the one that catches.
func TestP156Put(t *testing.T) {
	w := basic(t)
	w.put(full(128)...)
	w.frame(api.Frame{Kind: frCatch, A: 2})
	if got := w.step(); got != ran() {
		t.Errorf("Step() = %+v", got)
	}
	w.stack("0 does not fit", 1000, 1001, -3)
	if got := w.step(); got != halt() {
		t.Errorf("Step() = %+v", got)
	}
	w.throw(1)
	w.put(full(128)...)
	w.frame(api.Frame{Kind: frCatch, A: 0})
	w.frame(api.Frame{Kind: frCatch, A: 4})
	w.frame(api.Frame{Kind: frCell, X: 9})
	w.exec(number("r>"))
	w.step()
	w.stack("the cell does not fit", 1000, 1001, 1002, 1003, -3)
}

// TestP157Depth: P15.7, after what was caught the stack is as deep as it was, plus one, and the input is where it was.
func TestP157Depth(t *testing.T) {
	for _, x := range []string{"call drop call drop lit 5 call throw exit 0", "lit 1 lit 2 lit 3 lit 5 call throw exit 0", "call >r exit 0", "do 0 exit 0 loop 1 exit 0", "locals 2 call none exit 0", "lit 99 call execute exit 0", "lit throw call catch call throw exit 0"} {
		w := basic(t)
		w.put(6, 7, 5, 4)
		w.open("one two three")
		w.seek(4)
		xt := w.colon(x)
		w.put(api.Cell(xt))
		w.frame(api.Frame{Kind: frToken, A: 1})
		w.exec(number("catch"))
		w.step()
		w.seek(9)
		w.open("four")
		w.open("five")
		if got := w.run(100); got.Kind != enWait || w.s.Stack().Depth() != 5 || len(w.frames()) != 1 || w.in.Depth() != 1 || w.in.In() != 4 {
			t.Errorf("%s: %+v, %d, %d sources, %d", x, got, w.s.Stack().All(), w.in.Depth(), w.in.In())
		}
	}
	w := basic(t)
	w.put(1, 5)
	w.put(api.Cell(number("throw")))
	w.open("one two")
	w.open("three four")
	w.seek(3)
	w.exec(number("catch"))
	w.step()
	w.in.Close()
	w.m.sources = w.m.sources[:1]
	w.seek(2)
	w.run(10)
	if w.in.Depth() != 1 || w.in.In() != 2 {
		t.Errorf("the source below is at %d", w.in.In())
	}
}

// TestNil: the last paragraph, a nil Engine.
func TestNil(t *testing.T) {
	var g *engine.Engine
	if xt, e := g.Add(api.Word{Kind: wkCell}); xt != 0 || e != errNone {
		t.Errorf("Add = %d, %d", xt, e)
	}
	if e := g.Set(1, api.Word{Kind: wkCell}); e != errNone {
		t.Errorf("Set = %d", e)
	}
	if x, is := g.Word(1); x != (api.Word{}) || is {
		t.Errorf("Word = %+v, %v", x, is)
	}
	if n, e := g.Define(code("exit 0")); n != 0 || e != errNone {
		t.Errorf("Define = %d, %d", n, e)
	}
	if d, is := g.Def(1); d.L != nil || is {
		t.Errorf("Def = %+v, %v", d, is)
	}
	if words, defs := g.Many(); words != 0 || defs != 0 {
		t.Errorf("Many = %d, %d", words, defs)
	}
	if e := g.Cut(0, 0); e != errNone {
		t.Errorf("Cut = %d", e)
	}
	if e := g.Cut(-1, 0); e != errNone {
		t.Errorf("Cut = %d", e)
	}
	if e := g.Exec(1); e != errNone {
		t.Errorf("Exec = %d", e)
	}
	if s := g.Step(); s != halt() {
		t.Errorf("Step = %+v", s)
	}
	if s := g.Throw(5); s != halt() {
		t.Errorf("Throw = %+v", s)
	}
	if g.State() != nil || g.Frames() != nil {
		t.Error("it has a state or frames")
	}
}

// TestUnmade: rule 1, engines that New did not make, or of nothing, do not panic: each of their calls ends.
func TestUnmade(t *testing.T) {
	s, _ := prim.New(1024)
	for _, g := range []*engine.Engine{{}, engine.New(nil, nil), engine.New(s, nil), engine.New(nil, source.New())} {
		for _, x := range named() {
			g.Add(x.word)
		}
		for _, s := range []string{"lit 1 exit 0", "zero 0 exit 0", "do 0 loop 1 exit 0", "qdo 0 plus 1 exit 0", "do 0 leave 2 exit 0", "of 1 drop 0 exit 0", "locals 1 local 0 to 0 exit 0", "call catch exit 0", "jump 1 exit 0"} {
			n, _ := g.Define(code(s))
			g.Add(api.Word{Kind: wkColon, N: n})
			g.Add(api.Word{Kind: wkDoes, N: n})
		}
		words, defs := g.Many()
		for xt := range words + 2 {
			g.Exec(xt)
			for range 5 {
				g.Step()
			}
			g.Frames().Push(api.Frame{Kind: frCatch, A: 3, B: 1})
			g.Exec(xt)
			for range 5 {
				g.Step()
			}
			g.Throw(3)
		}
		for def := range defs + 2 {
			for index := range 4 {
				g.Frames().Push(api.Frame{Kind: frCall, A: def, B: index})
				for range 5 {
					g.Step()
				}
			}
		}
		if got := g.Throw(4); got != dead(4) {
			t.Errorf("Throw = %+v", got)
		}
		g.State()
		if e := g.Cut(0, 0); e != ok {
			t.Errorf("Cut = %d", e)
		}
	}
}

// TestOwn: rules 4 and 5, what is given and what is answered is shared with nothing.
func TestOwn(t *testing.T) {
	w := basic(t)
	d := code("lit 5 lit 6 exit 0")
	room := append(make([]api.Ins, 0, 10), d.L...)
	for i := range room[:cap(room)][3:] {
		room[:cap(room)][3+i] = api.Ins{Op: 99, A: i}
	}
	w.define(api.Def{L: room})
	if !slices.Equal(room, d.L) || room[:cap(room)][3] != (api.Ins{Op: 99}) {
		t.Errorf("the argument is %+v", room[:cap(room)])
	}
	room[0].W = 77
	w.first(d)
	got, _ := w.g.Def(1)
	got.L[0].W = 88
	_ = append(got.L[:1], api.Ins{Op: opExit})
	w.first(d)
	a, _ := w.g.Def(1)
	b, _ := w.g.Def(1)
	a.L[0].W = 1
	if b.L[0].W != 5 {
		t.Error("two answers share their memory")
	}
	w.define(code("lit 9 exit 0"))
	_ = append(b.L, api.Ins{Op: opJump})
	if d, _ := w.g.Def(2); d.L[0] != (api.Ins{Op: opLit, W: 9}) {
		t.Errorf("the definition behind begins with %+v", d.L[0])
	}
}

// first holds the first definition against what it must be.
func (w *watched) first(want api.Def) {
	w.Helper()
	if got, is := w.g.Def(1); !is || !slices.Equal(got.L, want.L) {
		w.Errorf("Def(1) = %+v, %v", got, is)
	}
}
