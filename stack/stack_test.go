package stack_test

import (
	"math"
	"math/rand"
	"slices"
	"strings"
	"testing"

	"rhyton/api"
	"rhyton/stack"
)

// The errors and the limit are written as numbers: a wrong name in the package cannot hide behind the same name here.
const (
	ok      = api.Errno(0)
	errArg  = api.Errno(1)
	errNone = api.Errno(2)
	thOver  = api.Errno(-3)
	thUnder = api.Errno(-4)

	most = 128

	least    = api.Cell(math.MinInt64)
	greatest = api.Cell(math.MaxInt64)
)

// effects are the operations as the chapter writes them: what is taken, and what is pushed, the top cell last.
func effects() map[int][2]string {
	return map[int][2]string{
		api.PmDup:   {"a", "a a"},
		api.PmDrop:  {"a", ""},
		api.PmSwap:  {"a b", "b a"},
		api.PmOver:  {"a b", "a b a"},
		api.PmRot:   {"a b c", "b c a"},
		api.PmNip:   {"a b", "b"},
		api.PmTuck:  {"a b", "b a b"},
		api.PmDup2:  {"a b", "a b a b"},
		api.PmDrop2: {"a b", ""},
		api.PmSwap2: {"a b c d", "c d a b"},
		api.PmOver2: {"a b c d", "a b c d a b"},
	}
}

// operations are all of them; every other number is none.
func operations() []int {
	var l []int
	for op := api.PmDup; op <= api.PmDepth; op++ {
		l = append(l, op)
	}
	return l
}

// after is a list of cells as an operation leaves it, and its error; beside an error the list stays.
func after(l []api.Cell, op int) ([]api.Cell, api.Errno) {
	l = slices.Clone(l)
	var then []api.Cell
	e := ok
	switch op {
	case api.PmQDup:
		then, e = rewritten(l, "a", "a a")
		if len(l) > 0 && l[len(l)-1] == 0 {
			then, e = l, ok
		}
	case api.PmPick, api.PmRoll:
		then, e = chosen(l, op == api.PmRoll)
	case api.PmDepth:
		then = append(slices.Clone(l), api.Cell(len(l)))
	default:
		effect, known := effects()[op]
		if !known {
			return l, errArg
		}
		then, e = rewritten(l, effect[0], effect[1])
	}
	if e == ok && len(then) > most {
		e = thOver
	}
	if e != ok {
		return l, e
	}
	return then, ok
}

// rewritten gives each of the topmost cells its name and writes the named cells anew.
func rewritten(l []api.Cell, before, then string) ([]api.Cell, api.Errno) {
	names := strings.Fields(before)
	rest := len(l) - len(names)
	if rest < 0 {
		return nil, thUnder
	}
	called := map[string]api.Cell{}
	for i, name := range names {
		called[name] = l[rest+i]
	}
	out := slices.Clone(l[:rest])
	for _, name := range strings.Fields(then) {
		out = append(out, called[name])
	}
	return out, ok
}

// chosen looks for the cell that has u cells above it, from the top down.
func chosen(l []api.Cell, roll bool) ([]api.Cell, api.Errno) {
	if len(l) == 0 {
		return nil, thUnder
	}
	below, u := slices.Clone(l[:len(l)-1]), l[len(l)-1]
	for i := len(below) - 1; i >= 0; i-- {
		if api.Cell(len(below)-1-i) != u {
			continue
		}
		x := below[i]
		if roll {
			below = slices.Delete(below, i, i+1)
		}
		return append(below, x), ok
	}
	return nil, thUnder
}

// watched is a stack and the cells that it must have: what is done to it is done to both, and both are held against each other.
type watched struct {
	*testing.T
	s *stack.Stack
	l []api.Cell
}

// of is a stack of some cells.
func of(t *testing.T, l ...api.Cell) *watched {
	t.Helper()
	w := &watched{t, stack.New(), nil}
	if w.s == nil {
		t.Fatal("New() = nil")
	}
	w.put(l...)
	return w
}

// deep is a stack of so many cells, each of them another one, and none of them small.
func deep(t *testing.T, n int) *watched {
	t.Helper()
	l := make([]api.Cell, n)
	for i := range l {
		l[i] = api.Cell(1000 + i*i)
	}
	return of(t, l...)
}

func (w *watched) same(after string, args ...any) {
	w.Helper()
	got := w.s.All()
	if !slices.Equal(got, w.l) || w.s.Depth() != len(w.l) {
		w.Fatalf(after+": the cells are %v, %d of them, want %v", append(args, got, w.s.Depth(), w.l)...)
	}
}

func (w *watched) error(got, want api.Errno, call string, args ...any) {
	w.Helper()
	if got != want {
		w.Errorf(call+" = %d, want %d", append(args, got, want)...)
	}
	w.same(call, args...)
}

func (w *watched) put(l ...api.Cell) {
	w.Helper()
	e := thOver
	if len(w.l)+len(l) <= most {
		w.l, e = append(w.l, l...), ok
	}
	w.error(w.s.Put(l...), e, "Put(%v)", l)
}

func (w *watched) push(x api.Cell) {
	w.Helper()
	e := thOver
	if len(w.l) < most {
		w.l, e = append(w.l, x), ok
	}
	w.error(w.s.Push(x), e, "Push(%d)", x)
}

func (w *watched) pop() {
	w.Helper()
	want, e := api.Cell(0), thUnder
	if n := len(w.l); n > 0 {
		want, e = w.l[n-1], ok
		w.l = w.l[:n-1]
	}
	got, ge := w.s.Pop()
	if got != want {
		w.Errorf("Pop() = %d, want %d", got, want)
	}
	w.error(ge, e, "Pop()")
}

func (w *watched) take(n int) {
	w.Helper()
	var want []api.Cell
	e := ok
	switch {
	case n < 0:
		e = errArg
	case n > len(w.l):
		e = thUnder
	default:
		want = slices.Clone(w.l[len(w.l)-n:])
		w.l = w.l[:len(w.l)-n]
	}
	got, ge := w.s.Take(n)
	if !slices.Equal(got, want) {
		w.Errorf("Take(%d) = %v, want %v", n, got, want)
	}
	w.error(ge, e, "Take(%d)", n)
}

func (w *watched) cut(n int) {
	w.Helper()
	to := max(n, 0)
	if to > most {
		to = most
	}
	for len(w.l) < to {
		w.l = append(w.l, 0)
	}
	w.l = w.l[:to]
	w.s.Cut(n)
	w.same("Cut(%d)", n)
}

func (w *watched) do(op int) {
	w.Helper()
	before := len(w.l)
	l, e := after(w.l, op)
	w.l = l
	w.error(w.s.Do(op), e, "Do(%d) at a depth of %d", op, before)
}

func someCells() []api.Cell {
	return []api.Cell{0, 1, -1, 2, 127, 128, 255, 1 << 31, -1 << 31, 1 << 32, 0x0102030405060708, least, least + 1, greatest - 1, greatest}
}

// someNumbers are depths and numbers of cells: all around those that there may be, and great ones that wrap around or are cut.
func someNumbers() []int {
	l := []int{math.MinInt, math.MinInt + 1, math.MinInt + most, -1<<32 - 1, -1 << 32, -1<<32 + 1, -1 << 31, -1 << 8, 1 << 8, 1<<31 - 1, 1 << 31, 1 << 32, 1<<32 + 1, 1<<32 + most, math.MaxInt - most, math.MaxInt - 1, math.MaxInt}
	for n := -3; n <= most+3; n++ {
		l = append(l, n)
	}
	return l
}

// TestP61New: P6.1, a new stack is empty, and each one is another.
func TestP61New(t *testing.T) {
	a, b := of(t), of(t)
	a.same("New()")
	a.put(1, 2, 3)
	b.same("Put into another stack")
	b.push(4)
	a.same("Push onto another stack")
	of(t).same("New() after others")
}

// TestP61Push: P6.1, up to a full stack and back.
func TestP61Push(t *testing.T) {
	w := of(t)
	for _, x := range someCells() {
		w.push(x)
	}
	for i := range most {
		w.push(api.Cell(i) - 60)
	}
	if w.s.Depth() != most {
		t.Errorf("the depth is %d", w.s.Depth())
	}
	for range most + 2 {
		w.pop()
	}
	w.push(7)
	w.pop()
	w.pop()
}

// TestP61Both: P6.1, plain cases written by hand.
func TestP61Both(t *testing.T) {
	s := stack.New()
	if x, e := s.Pop(); x != 0 || e != thUnder {
		t.Errorf("Pop() of an empty stack = %d, %d", x, e)
	}
	if e := s.Put(4, 5, 6); e != ok {
		t.Errorf("Put(4, 5, 6) = %d", e)
	}
	if e := s.Push(7); e != ok {
		t.Errorf("Push(7) = %d", e)
	}
	if l := s.All(); !slices.Equal(l, []api.Cell{4, 5, 6, 7}) || s.Depth() != 4 {
		t.Errorf("All() = %v, Depth() = %d", l, s.Depth())
	}
	if x, e := s.Pop(); x != 7 || e != ok {
		t.Errorf("Pop() = %d, %d", x, e)
	}
	if l, e := s.Take(2); !slices.Equal(l, []api.Cell{5, 6}) || e != ok {
		t.Errorf("Take(2) = %v, %d", l, e)
	}
	if l, e := s.Take(2); len(l) != 0 || e != thUnder {
		t.Errorf("Take(2) of one cell = %v, %d", l, e)
	}
	if l, e := s.Take(-1); len(l) != 0 || e != errArg {
		t.Errorf("Take(-1) = %v, %d", l, e)
	}
	s.Cut(3)
	if l := s.All(); !slices.Equal(l, []api.Cell{4, 0, 0}) {
		t.Errorf("All() after Cut(3) = %v", l)
	}
}

// TestP61Take: P6.1, so many of so many, and far too many.
func TestP61Take(t *testing.T) {
	for _, n := range someNumbers() {
		for _, depth := range []int{0, 1, 2, 3, 50, most - 1, most} {
			deep(t, depth).take(n)
		}
	}
	w := deep(t, most)
	for n := 0; n < 20; n++ {
		w.take(n)
	}
}

// TestP61Put: P6.1, all of them fit, or none is pushed.
func TestP61Put(t *testing.T) {
	for n := 0; n <= most+3; n++ {
		for _, depth := range []int{0, 1, 2, 63, 64, most - 2, most - 1, most} {
			deep(t, depth).put(make([]api.Cell, n)...)
			deep(t, depth).put(slices.Repeat([]api.Cell{3, -1}, (n+1)/2)[:n]...)
		}
	}
	w := deep(t, most)
	w.put()
	w.put(nil...)
	w.put(1)
	w.put(make([]api.Cell, 1<<16)...)
}

// TestP61Cut: P6.1, from each depth to each depth, and to those beyond; where cells come back, they are 0.
func TestP61Cut(t *testing.T) {
	for depth := 0; depth <= most; depth++ {
		for _, n := range someNumbers() {
			w := deep(t, depth)
			w.cut(n)
			w.cut(most)
			w.cut(n)
		}
	}
}

// TestP61Own: P6.1 and rule 4 and 5, what was handed in or out shares nothing with the stack.
func TestP61Own(t *testing.T) {
	w := deep(t, 10)
	list := []api.Cell{1, 2, 3, 4, 5}
	w.put(list[:2]...)
	if want := []api.Cell{1, 2, 3, 4, 5}; !slices.Equal(list, want) {
		t.Errorf("Put made %v of its argument", list)
	}
	list[0], list[1] = 77, 78
	w.same("a change of what was put")

	spoil := func(l []api.Cell) {
		for i := range l[:cap(l)] {
			l[:cap(l)][i] = 99
		}
	}
	first, second := w.s.All(), w.s.All()
	spoil(first)
	w.same("a change of what All told")
	if !slices.Equal(second, w.l) {
		t.Errorf("what All told shares cells with another list: %v", second)
	}
	taken, _ := w.s.Take(4)
	want := slices.Clone(w.l[8:])
	w.l = w.l[:8]
	w.push(5)
	w.put(6, 7, 8, 9)
	if !slices.Equal(taken, want) {
		t.Errorf("what was taken became %v, want %v", taken, want)
	}
	spoil(taken)
	w.same("a change of what was taken")
	if !slices.Equal(second, append(second[:8:8], want...)) {
		t.Errorf("what All told became %v", second)
	}
}

// TestExamples: the chapter's examples.
func TestExamples(t *testing.T) {
	s := stack.New()
	s.Put(1, 2, 3)
	if e := s.Do(api.PmRot); e != ok || !slices.Equal(s.All(), []api.Cell{2, 3, 1}) {
		t.Errorf("Do(PmRot) = %d, the cells are %v", e, s.All())
	}
	s = stack.New()
	s.Put(7)
	s.Put(1)
	if e := s.Do(api.PmPick); e != thUnder || !slices.Equal(s.All(), []api.Cell{7, 1}) {
		t.Errorf("Do(PmPick) = %d, the cells are %v", e, s.All())
	}
}

// TestP62Do: P6.2, plain cases written by hand.
func TestP62Do(t *testing.T) {
	for _, x := range []struct {
		op         int
		from, want []api.Cell
		e          api.Errno
	}{
		{api.PmDup, []api.Cell{1, 2}, []api.Cell{1, 2, 2}, ok},
		{api.PmDrop, []api.Cell{1, 2}, []api.Cell{1}, ok},
		{api.PmSwap, []api.Cell{1, 2, 3}, []api.Cell{1, 3, 2}, ok},
		{api.PmOver, []api.Cell{1, 2, 3}, []api.Cell{1, 2, 3, 2}, ok},
		{api.PmRot, []api.Cell{1, 2, 3, 4}, []api.Cell{1, 3, 4, 2}, ok},
		{api.PmNip, []api.Cell{1, 2, 3}, []api.Cell{1, 3}, ok},
		{api.PmTuck, []api.Cell{1, 2, 3}, []api.Cell{1, 3, 2, 3}, ok},
		{api.PmQDup, []api.Cell{1, -2}, []api.Cell{1, -2, -2}, ok},
		{api.PmQDup, []api.Cell{1, 0}, []api.Cell{1, 0}, ok},
		{api.PmDup2, []api.Cell{1, 2, 3}, []api.Cell{1, 2, 3, 2, 3}, ok},
		{api.PmDrop2, []api.Cell{1, 2, 3}, []api.Cell{1}, ok},
		{api.PmSwap2, []api.Cell{1, 2, 3, 4, 5}, []api.Cell{1, 4, 5, 2, 3}, ok},
		{api.PmOver2, []api.Cell{1, 2, 3, 4, 5}, []api.Cell{1, 2, 3, 4, 5, 2, 3}, ok},
		{api.PmPick, []api.Cell{7, 8, 9, 0}, []api.Cell{7, 8, 9, 9}, ok},
		{api.PmPick, []api.Cell{7, 8, 9, 2}, []api.Cell{7, 8, 9, 7}, ok},
		{api.PmPick, []api.Cell{7, 8, 9, 3}, []api.Cell{7, 8, 9, 3}, thUnder},
		{api.PmPick, []api.Cell{7, 8, 9, -1}, []api.Cell{7, 8, 9, -1}, thUnder},
		{api.PmPick, []api.Cell{0}, []api.Cell{0}, thUnder},
		{api.PmRoll, []api.Cell{7, 8, 9, 0}, []api.Cell{7, 8, 9}, ok},
		{api.PmRoll, []api.Cell{7, 8, 9, 1}, []api.Cell{7, 9, 8}, ok},
		{api.PmRoll, []api.Cell{7, 8, 9, 2}, []api.Cell{8, 9, 7}, ok},
		{api.PmRoll, []api.Cell{7, 8, 9, 3}, []api.Cell{7, 8, 9, 3}, thUnder},
		{api.PmRoll, []api.Cell{7, 8, 9, least}, []api.Cell{7, 8, 9, least}, thUnder},
		{api.PmRoll, []api.Cell{0}, []api.Cell{0}, thUnder},
		{api.PmDepth, nil, []api.Cell{0}, ok},
		{api.PmDepth, []api.Cell{9, 9}, []api.Cell{9, 9, 2}, ok},
		{api.PmOver2, []api.Cell{1, 2, 3}, []api.Cell{1, 2, 3}, thUnder},
		{api.PmRot, []api.Cell{1, 2}, []api.Cell{1, 2}, thUnder},
		{api.PmQDup, nil, nil, thUnder},
	} {
		s := stack.New()
		s.Put(x.from...)
		if e := s.Do(x.op); e != x.e || !slices.Equal(s.All(), x.want) {
			t.Errorf("Do(%d) of %v = %d, want %d; the cells are %v, want %v", x.op, x.from, e, x.e, s.All(), x.want)
		}
	}
}

// TestP62Depths: P6.2 and P6.3, every operation at every depth, so also where the cells are just enough or just too many.
func TestP62Depths(t *testing.T) {
	for depth := 0; depth <= most; depth++ {
		for _, op := range operations() {
			deep(t, depth).do(op)
			for _, top := range someCells() {
				w := deep(t, max(depth-1, 0))
				w.put([]api.Cell{top}[:min(depth, 1)]...)
				w.do(op)
			}
		}
	}
}

// TestP62Full: P6.2, what an operation says of a full stack, or of one that lacks one or two cells of it, written by hand.
func TestP62Full(t *testing.T) {
	grows := map[int]int{api.PmDup: 1, api.PmOver: 1, api.PmTuck: 1, api.PmQDup: 1, api.PmDepth: 1, api.PmDup2: 2, api.PmOver2: 2}
	for _, op := range operations() {
		for room := range 3 {
			w := deep(t, most-room)
			if op == api.PmPick || op == api.PmRoll {
				w.take(1)
				w.push(3)
			}
			want := ok
			if grows[op] > room {
				want = thOver
			}
			if e := w.s.Do(op); e != want {
				t.Errorf("Do(%d) with room for %d = %d, want %d", op, room, e, want)
			}
		}
	}
	w := deep(t, most-1)
	w.push(0)
	w.do(api.PmQDup)
}

// TestP62Few: P6.2, how many cells an operation takes, written by hand.
func TestP62Few(t *testing.T) {
	takes := map[int]int{api.PmDup: 1, api.PmDrop: 1, api.PmSwap: 2, api.PmOver: 2, api.PmRot: 3, api.PmNip: 2, api.PmTuck: 2, api.PmQDup: 1, api.PmDup2: 2, api.PmDrop2: 2, api.PmSwap2: 4, api.PmOver2: 4, api.PmPick: 2, api.PmRoll: 2, api.PmDepth: 0}
	for _, op := range operations() {
		for depth := range 6 {
			w := of(t, make([]api.Cell, depth)...)
			want := ok
			if depth < takes[op] {
				want = thUnder
			}
			if e := w.s.Do(op); e != want {
				t.Errorf("Do(%d) of %d zeros = %d, want %d", op, depth, e, want)
			}
		}
	}
}

// TestP62Chosen: P6.2, pick and roll of every cell, and of none, at every depth.
func TestP62Chosen(t *testing.T) {
	for depth := 0; depth < most; depth++ {
		us := append(someCells(), 1<<32+1, -1<<32, 1<<63-1, least+api.Cell(depth)/2, -api.Cell(depth))
		for u := api.Cell(-2); u <= api.Cell(depth)+2; u++ {
			us = append(us, u)
		}
		for _, u := range us {
			for _, op := range []int{api.PmPick, api.PmRoll} {
				w := deep(t, depth)
				w.push(u)
				w.do(op)
			}
		}
	}
}

// TestP62Wrong: P6.2, numbers that are no operation, whatever is on the stack.
func TestP62Wrong(t *testing.T) {
	first, last := api.PmDup, api.PmDepth
	var wrong []int
	for n := -300; n <= 600; n++ {
		if n < first || n > last {
			wrong = append(wrong, n)
		}
	}
	for _, n := range []int{math.MinInt, math.MinInt + first, math.MaxInt - first, math.MaxInt, 1 << 31, 1 << 16, 1 << 8} {
		wrong = append(wrong, n, n-1)
	}
	for _, op := range operations() { // what a number of fewer bits would take for an operation
		wrong = append(wrong, op+1<<8, op+1<<16, op+1<<32, op-1<<32, op-1<<8, -op)
	}
	for _, depth := range []int{0, 1, 4, most - 1, most} {
		w := deep(t, depth)
		for _, op := range wrong {
			if e := w.s.Do(op); e != errArg {
				t.Errorf("Do(%d) at a depth of %d = %d", op, depth, e)
			}
		}
		w.same("numbers that are no operation")
	}
}

// TestP63Below: P6.3, the cells below those that an operation takes stay, whatever they are.
func TestP63Below(t *testing.T) {
	takes := map[int]int{api.PmDup: 1, api.PmDrop: 1, api.PmSwap: 2, api.PmOver: 2, api.PmRot: 3, api.PmNip: 2, api.PmTuck: 2, api.PmQDup: 1, api.PmDup2: 2, api.PmDrop2: 2, api.PmSwap2: 4, api.PmOver2: 4, api.PmPick: 7, api.PmRoll: 7, api.PmDepth: 0}
	for _, op := range operations() {
		for n := 0; n < most-12; n++ {
			below := deep(t, n).l
			w := of(t, below...)
			w.put(9, 8, 7, 6, 5, 5, 5)
			if e := w.s.Do(op); e != ok || !slices.Equal(w.s.All()[:n+7-takes[op]], w.l[:n+7-takes[op]]) {
				t.Fatalf("Do(%d) at a depth of %d = %d, the cells are %v, want %v below", op, n+7, e, w.s.All(), w.l[:n+7-takes[op]])
			}
		}
	}
}

// TestNil: what each call answers of no stack, whatever it is given.
func TestNil(t *testing.T) {
	var s *stack.Stack
	if x, e := s.Pop(); x != 0 || e != errNone {
		t.Errorf("Pop() = %d, %d", x, e)
	}
	for _, n := range someNumbers() {
		if l, e := s.Take(n); len(l) != 0 || e != errNone {
			t.Errorf("Take(%d) = %v, %d", n, l, e)
		}
		if e := s.Do(n); e != errNone {
			t.Errorf("Do(%d) = %d", n, e)
		}
		s.Cut(n)
		if e := s.Push(api.Cell(n)); e != errNone {
			t.Errorf("Push(%d) = %d", n, e)
		}
	}
	for _, l := range [][]api.Cell{nil, {}, {1}, {1, 2, 3}, make([]api.Cell, most+1)} {
		if e := s.Put(l...); e != errNone {
			t.Errorf("Put(%v) = %d", l, e)
		}
	}
	if s.Depth() != 0 || len(s.All()) != 0 {
		t.Errorf("Depth() = %d, All() = %v", s.Depth(), s.All())
	}
}

// TestUnmade: a stack that New did not make is empty, and can be used.
func TestUnmade(t *testing.T) {
	w := &watched{t, new(stack.Stack), nil}
	w.same("no call")
	w.pop()
	w.take(0)
	w.take(1)
	w.do(api.PmDup)
	w.do(api.PmDepth)
	w.put(1, 2)
	w.cut(4)
	w.pop()
}

// TestMixed: P6.1 to P6.3, long rows of all calls, always the same rows.
func TestMixed(t *testing.T) {
	source := rand.New(rand.NewSource(6))
	ops := append(operations(), api.PmDup-1, api.PmDepth+1)
	for _, depth := range []int{0, 1, 5, 64, 120, most} {
		w := deep(t, depth)
		for range 20000 {
			w.random(source, ops)
		}
	}
}

// random does one of the calls, mostly an operation; small cells are frequent, so that pick and roll find theirs.
func (w *watched) random(source *rand.Rand, ops []int) {
	w.Helper()
	small := source.Intn(8) - 1
	switch source.Intn(30) {
	case 0, 1, 2, 3:
		w.push(api.Cell(small))
	case 4:
		w.push(api.Cell(source.Uint64()))
	case 5:
		w.pop()
	case 6:
		w.take(small)
	case 7:
		w.put(someCells()[:small+1]...)
	case 8:
		w.push(api.Cell(source.Intn(most + 2)))
	case 9:
		w.cut(len(w.l) + small - 3)
	case 10:
		if source.Intn(20) == 0 {
			w.cut(someNumbers()[source.Intn(len(someNumbers()))])
		}
	default:
		w.do(ops[source.Intn(len(ops))])
	}
}
