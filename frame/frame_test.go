package frame_test

import (
	"math"
	"math/big"
	"math/rand"
	"slices"
	"testing"

	"rhyton/api"
	"rhyton/frame"
)

// The errors, the kinds and the limit are written as numbers: a wrong name in the package cannot hide behind the same name here.
const (
	ok      = api.Errno(0)
	errNone = api.Errno(2)
	thDeep  = api.Errno(-5)
	thFrame = api.Errno(-6)
	thLoop  = api.Errno(-26)

	call   = 1
	cell   = 2
	loop   = 3
	locals = 4
	catch  = 5
	token  = 6
	recog  = 7

	most = 128

	least    = api.Cell(math.MinInt64)
	greatest = api.Cell(math.MaxInt64)
)

// kinds are all that there are, and some that are none.
func kinds() []int {
	return []int{call, cell, loop, locals, catch, token, recog, 0, 8, -1, -loop, 9, 255, 256 + loop, 1<<32 + catch, math.MinInt, math.MaxInt}
}

func someCells() []api.Cell {
	return []api.Cell{0, 1, -1, 2, -2, 3, 127, 128, 255, 1 << 31, -1 << 31, 1 << 32, 1 << 62, -1 << 62, 0x0102030405060708, least, least + 1, least + 2, greatest - 2, greatest - 1, greatest}
}

// someNumbers are depths and indices: all around those that there may be, and great ones that wrap around or are cut.
func someNumbers() []int {
	l := []int{math.MinInt, math.MinInt + 1, math.MinInt + most, -1<<32 - 1, -1 << 32, -1<<32 + 1, -1 << 31, -1 << 8, 1 << 8, 1<<31 - 1, 1 << 31, 1 << 32, 1<<32 + 1, 1<<32 + most, math.MaxInt - most, math.MaxInt - 1, math.MaxInt}
	for n := -3; n <= most+3; n++ {
		l = append(l, n)
	}
	return l
}

// same holds two frames against each other; no locals and none at all are the same.
func same(a, b api.Frame) bool {
	return a.Kind == b.Kind && a.A == b.A && a.B == b.B && a.X == b.X && a.Y == b.Y && slices.Equal(a.L, b.L)
}

// own is a frame that shares nothing with another one.
func own(x api.Frame) api.Frame {
	x.L = append([]api.Cell{}, x.L...)
	return x
}

// ofKind is a frame of a kind, and in every other field a number of its own.
func ofKind(kind, n int) api.Frame {
	x := api.Frame{Kind: kind, A: 10*n + 1, B: 10*n + 2, X: api.Cell(10*n + 3), Y: api.Cell(10*n + 4)}
	for i := range n % 5 {
		x.L = append(x.L, api.Cell(100*n+i))
	}
	return x
}

// watched is a stack of frames and the frames that it must have: what is done to it is done to both, and both are held against each other.
type watched struct {
	*testing.T
	f *frame.Frames
	l []api.Frame
}

// of is a stack of some frames.
func of(t *testing.T, l ...api.Frame) *watched {
	t.Helper()
	w := &watched{t, frame.New(), nil}
	if w.f == nil {
		t.Fatal("New() = nil")
	}
	for _, x := range l {
		w.push(x)
	}
	return w
}

// ofKinds is a stack of frames of some kinds.
func ofKinds(t *testing.T, l ...int) *watched {
	t.Helper()
	w := of(t)
	for n, kind := range l {
		w.push(ofKind(kind, n))
	}
	return w
}

// same holds the depth and the top against what they must be.
func (w *watched) same(after string, args ...any) {
	w.Helper()
	top, is := w.f.Top()
	want, must := api.Frame{}, false
	if n := len(w.l); n > 0 {
		want, must = w.l[n-1], true
	}
	if w.f.Depth() != len(w.l) || is != must || !same(top, want) {
		w.Fatalf(after+": there are %d frames, the top one is %+v, %v; want %d, %+v, %v", append(args, w.f.Depth(), top, is, len(w.l), want, must)...)
	}
}

// all holds every frame against what it must be, by taking off one after the other, and puts them on again.
func (w *watched) all() {
	w.Helper()
	kept := slices.Clone(w.l)
	for len(w.l) > 0 {
		w.pop(w.l[len(w.l)-1].Kind)
	}
	for _, x := range kept {
		w.push(x)
	}
}

func (w *watched) error(got, want api.Errno, call string, args ...any) {
	w.Helper()
	if got != want {
		w.Errorf(call+" = %d, want %d", append(args, got, want)...)
	}
	w.same(call, args...)
}

func (w *watched) push(x api.Frame) {
	w.Helper()
	e := thDeep
	if len(w.l) < most {
		w.l, e = append(w.l, own(x)), ok
	}
	w.error(w.f.Push(x), e, "Push(%+v)", x)
}

func (w *watched) pop(kind int) {
	w.Helper()
	want, e := api.Frame{}, thFrame
	if n := len(w.l); n > 0 && w.l[n-1].Kind == kind {
		want, e = w.l[n-1], ok
		w.l = w.l[:n-1]
	}
	got, ge := w.f.Pop(kind)
	if !same(got, want) {
		w.Errorf("Pop(%d) = %+v, want %+v", kind, got, want)
	}
	w.error(ge, e, "Pop(%d)", kind)
}

func (w *watched) cut(n int) {
	w.Helper()
	switch {
	case n < 0:
		w.l = nil
	case n < len(w.l):
		w.l = w.l[:n]
	}
	w.f.Cut(n)
	w.same("Cut(%d)", n)
}

// above are the frames from one index on, all of one kind.
func above(l []api.Frame, from, kind int) bool {
	return !slices.ContainsFunc(l[from:], func(x api.Frame) bool { return x.Kind != kind })
}

func (w *watched) index(outer int) {
	w.Helper()
	want, e := api.Cell(0), thLoop
	for at := range w.l {
		if len(w.l)-1-at == outer && above(w.l, at, loop) {
			want, e = w.l[at].X, ok
		}
	}
	got, ge := w.f.Index(outer)
	if got != want {
		w.Errorf("Index(%d) = %d, want %d", outer, got, want)
	}
	w.error(ge, e, "Index(%d)", outer)
}

// wrapped is the cell of a number modulo 2^64.
func wrapped(n *big.Int) api.Cell {
	all := new(big.Int).Lsh(big.NewInt(1), 64)
	n = new(big.Int).Mod(n, all)
	if n.Bit(63) == 1 {
		n.Sub(n, all)
	}
	return api.Cell(n.Int64())
}

// sum and less reckon with wraparound, but by exact numbers.
func sum(a, b api.Cell) api.Cell {
	return wrapped(new(big.Int).Add(big.NewInt(int64(a)), big.NewInt(int64(b))))
}

func less(a, b api.Cell) api.Cell {
	return wrapped(new(big.Int).Sub(big.NewInt(int64(a)), big.NewInt(int64(b))))
}

// ended is the chapter's rule, word by word.
func ended(x, y, by api.Cell) bool {
	d := less(x, y)
	then := sum(d, by)
	if !(by < 0) && d < 0 && !(then < 0) {
		return true
	}
	return by < 0 && !(d < 0) && then < 0
}

func (w *watched) step(by api.Cell) bool {
	w.Helper()
	want, e := false, thLoop
	if n := len(w.l); n > 0 && w.l[n-1].Kind == loop {
		top := &w.l[n-1]
		want, e = ended(top.X, top.Y, by), ok
		if want {
			w.l = w.l[:n-1]
		} else {
			top.X = sum(top.X, by)
		}
	}
	got, ge := w.f.Step(by)
	if got != want {
		w.Errorf("Step(%d) = %v, want %v", by, got, want)
	}
	w.error(ge, e, "Step(%d)", by)
	return got
}

// place is where a local is, by the frames below the last call.
func place(l []api.Frame, i int) *api.Cell {
	var found *api.Frame
	for at := range l {
		switch l[at].Kind {
		case call:
			found = nil
		case locals:
			found = &l[at]
		}
	}
	if found == nil || i < 0 || i >= len(found.L) {
		return nil
	}
	return &found.L[i]
}

func (w *watched) local(i int) {
	w.Helper()
	want, e := api.Cell(0), thFrame
	if x := place(w.l, i); x != nil {
		want, e = *x, ok
	}
	got, ge := w.f.Local(i)
	if got != want {
		w.Errorf("Local(%d) = %d, want %d", i, got, want)
	}
	w.error(ge, e, "Local(%d)", i)
}

func (w *watched) setLocal(i int, x api.Cell) {
	w.Helper()
	e := thFrame
	if to := place(w.l, i); to != nil {
		*to, e = x, ok
	}
	w.error(w.f.SetLocal(i, x), e, "SetLocal(%d, %d)", i, x)
}

func (w *watched) catch() {
	w.Helper()
	want, must := api.Frame{}, false
	for at := len(w.l); at > 0 && !must; at-- {
		if w.l[at-1].Kind == catch {
			want, must = w.l[at-1], true
			w.l = w.l[:at-1]
		}
	}
	got, is := w.f.Catch()
	if is != must || !same(got, want) {
		w.Errorf("Catch() = %+v, %v, want %+v, %v", got, is, want, must)
	}
	w.same("Catch()")
}

// asked asks all that changes nothing.
func (w *watched) asked() {
	w.Helper()
	for n := -1; n <= len(w.l)+1; n++ {
		w.index(n)
	}
	for i := -1; i <= 6; i++ {
		w.local(i)
	}
}

// TestP141New: P14.1, there is no frame at first, and each stack of frames is another one.
func TestP141New(t *testing.T) {
	a, b := of(t), of(t)
	a.same("New()")
	a.push(ofKind(loop, 3))
	b.same("Push onto another one")
	b.push(ofKind(cell, 4))
	a.same("Push onto another one")
	of(t).same("New() after others")
	if x, is := frame.New().Top(); is || !same(x, api.Frame{}) {
		t.Errorf("Top() of none = %+v, %v", x, is)
	}
}

// TestP141Both: P14.1, plain cases written by hand.
func TestP141Both(t *testing.T) {
	f := frame.New()
	if e := f.Push(api.Frame{Kind: call, A: 3, B: 14}); e != ok {
		t.Errorf("Push = %d", e)
	}
	if e := f.Push(api.Frame{Kind: locals, L: []api.Cell{7, 8}}); e != ok {
		t.Errorf("Push = %d", e)
	}
	if n := f.Depth(); n != 2 {
		t.Errorf("Depth() = %d", n)
	}
	if x, is := f.Top(); !is || x.Kind != locals || !slices.Equal(x.L, []api.Cell{7, 8}) {
		t.Errorf("Top() = %+v, %v", x, is)
	}
	if x, e := f.Pop(call); e != thFrame || !same(x, api.Frame{}) || f.Depth() != 2 {
		t.Errorf("Pop(call) = %+v, %d, the depth is %d", x, e, f.Depth())
	}
	if x, e := f.Pop(locals); e != ok || x.Kind != locals || !slices.Equal(x.L, []api.Cell{7, 8}) || f.Depth() != 1 {
		t.Errorf("Pop(locals) = %+v, %d, the depth is %d", x, e, f.Depth())
	}
	if x, e := f.Pop(call); e != ok || !same(x, api.Frame{Kind: call, A: 3, B: 14}) || f.Depth() != 0 {
		t.Errorf("Pop(call) = %+v, %d, the depth is %d", x, e, f.Depth())
	}
	if x, e := f.Pop(call); e != thFrame || !same(x, api.Frame{}) {
		t.Errorf("Pop(call) of none = %+v, %d", x, e)
	}
}

// TestP141Push: P14.1, frames of every kind, those that do not exist as well, up to 128 and back.
func TestP141Push(t *testing.T) {
	w := of(t)
	for n := range most + 3 {
		w.push(ofKind(kinds()[n%len(kinds())], n))
	}
	if w.f.Depth() != most {
		t.Errorf("the depth is %d", w.f.Depth())
	}
	w.push(api.Frame{})
	w.all()
	w.cut(most - 1)
	w.push(ofKind(catch, 77))
	w.push(ofKind(catch, 78))
	w.all()
}

// TestP141Pop: P14.1, of every kind from every kind, with another one below.
func TestP141Pop(t *testing.T) {
	of(t).pop(0)
	for _, kind := range kinds() {
		of(t).pop(kind)
		for n, top := range kinds() {
			w := of(t, ofKind(kind, n), ofKind(top, n+1))
			w.pop(kind)
			w.pop(top)
			w.pop(kind)
			w.pop(kind)
		}
	}
}

// TestP141Cut: P14.1, from each depth to each depth, and to those beyond.
func TestP141Cut(t *testing.T) {
	for depth := 0; depth <= most; depth++ {
		for _, n := range someNumbers() {
			w := of(t)
			for at := range depth {
				w.l = append(w.l, api.Frame{Kind: loop, X: api.Cell(at * at), L: []api.Cell{5}})
				w.f.Push(w.l[at])
			}
			w.cut(n)
			w.push(ofKind(token, depth))
			w.index(0)
			w.cut(n)
		}
	}
	w := ofKinds(t, call, loop, locals, catch, cell)
	w.cut(3)
	w.all()
	w.cut(math.MinInt)
	w.push(ofKind(cell, 3))
	w.all()
}

// TestP142Index: P14.2, from every number of loops upon every kind of frame.
func TestP142Index(t *testing.T) {
	for _, kind := range kinds() {
		for loops := 0; loops <= 5; loops++ {
			w := ofKinds(t, loop, loop, kind)
			for n := range loops {
				w.push(ofKind(loop, 20+n))
			}
			for _, outer := range someNumbers() {
				w.index(outer)
			}
			w.push(ofKind(kind, 7))
			w.asked()
		}
	}
	w := of(t)
	for n := range most {
		w.index(n)
		w.push(ofKind(loop, n))
	}
	for _, outer := range someNumbers() {
		w.index(outer)
	}
}

// TestP142Steps: P14.2, plain cases written by hand.
func TestP142Steps(t *testing.T) {
	for _, x := range []struct {
		x, y, by api.Cell
		end      bool
		next     api.Cell
	}{
		{0, 10, 1, false, 1},
		{8, 10, 1, false, 9},
		{9, 10, 1, true, 0},
		{10, 10, 1, false, 11},
		{11, 10, 1, false, 12},
		{9, 10, 5, true, 0},
		{0, 10, 9, false, 9},
		{0, 10, 10, true, 0},
		{0, 10, 0, false, 0},
		{10, 10, 0, false, 10},
		{9, 10, 0, false, 9},
		{10, 0, -1, false, 9},
		{1, 0, -1, false, 0},
		{0, 0, -1, true, 0},
		{-1, 0, -1, false, -2},
		{10, 0, -10, false, 0},
		{10, 0, -11, true, 0},
		{-5, -3, 2, true, 0},
		{-5, -3, 1, false, -4},
		{greatest, greatest, 1, false, least},
		{greatest, least, 1, true, 0},
		{greatest - 1, least, 1, false, greatest},
		{least, greatest, -1, false, greatest},
		{least, least, -1, true, 0},
		{least, 0, greatest, false, -1},
		{least, 0, least, false, 0},
		{greatest, 0, greatest, false, -2},
		{greatest, 0, least, true, 0},
		{0, 1, greatest, true, 0},
		{0, 0, greatest, false, greatest},
		{0, 0, least, true, 0},
		{-1, 0, least, false, greatest},
	} {
		f := frame.New()
		f.Push(api.Frame{Kind: cell, X: 5})
		f.Push(api.Frame{Kind: loop, A: 1, B: 2, X: x.x, Y: x.y, L: []api.Cell{6}})
		end, e := f.Step(x.by)
		if e != ok || end != x.end {
			t.Errorf("a loop at %d up to %d: Step(%d) = %v, %d", x.x, x.y, x.by, end, e)
		}
		want := api.Frame{Kind: loop, A: 1, B: 2, X: x.next, Y: x.y, L: []api.Cell{6}}
		if x.end {
			want = api.Frame{Kind: cell, X: 5}
		}
		if top, _ := f.Top(); !same(top, want) {
			t.Errorf("a loop at %d up to %d: after Step(%d) the top is %+v", x.x, x.y, x.by, top)
		}
	}
}

// TestP142Edges: P14.2, from every edge up to every edge by every edge, and by those at which it just ends or just does not.
func TestP142Edges(t *testing.T) {
	for _, x := range someCells() {
		for _, y := range someCells() {
			d := less(x, y)
			for _, by := range append(someCells(), less(0, d), sum(less(0, d), 1), less(less(0, d), 1)) {
				w := of(t, api.Frame{Kind: loop, X: 4}, api.Frame{Kind: loop, X: x, Y: y})
				w.step(by)
				w.asked()
			}
		}
	}
}

// TestP142None: P14.2, what is no loop cannot be advanced.
func TestP142None(t *testing.T) {
	of(t).step(1)
	of(t).step(0)
	for _, kind := range kinds() {
		if kind == loop {
			continue
		}
		for _, by := range someCells() {
			w := ofKinds(t, loop, kind)
			w.step(by)
			w.pop(kind)
			w.step(by)
		}
	}
}

// TestP142Nested: P14.2, an inner loop is advanced alone, and the outer one after its end.
func TestP142Nested(t *testing.T) {
	w := of(t, api.Frame{Kind: loop, X: 0, Y: 3})
	seen := []api.Cell{}
	for more := true; more; more = !w.step(1) {
		w.push(api.Frame{Kind: loop, X: 4, Y: -1})
		for more := true; more; more = !w.step(-2) {
			i, _ := w.f.Index(0)
			j, _ := w.f.Index(1)
			seen = append(seen, 10*j+i)
		}
	}
	if want := []api.Cell{4, 2, 0, 14, 12, 10, 24, 22, 20}; !slices.Equal(seen, want) {
		t.Errorf("the loops were at %v, want %v", seen, want)
	}
	w.same("both loops")
}

// TestP143Local: P14.3, every stack of three frames, some of which hide those below them.
func TestP143Local(t *testing.T) {
	for _, a := range kinds() {
		for _, b := range kinds() {
			for _, c := range kinds() {
				w := of(t, ofKind(locals, 1))
				for n, kind := range []int{a, b, c} {
					w.push(ofKind(kind, 4-n))
				}
				w.asked()
				for i := -1; i <= 5; i++ {
					w.setLocal(i, api.Cell(-50-i))
				}
				w.asked()
				w.all()
			}
		}
	}
}

// TestP143Both: P14.3, plain cases written by hand.
func TestP143Both(t *testing.T) {
	f := frame.New()
	get := func(i int, want api.Cell, we api.Errno) {
		t.Helper()
		if x, e := f.Local(i); x != want || e != we {
			t.Errorf("Local(%d) = %d, %d, want %d, %d", i, x, e, want, we)
		}
	}
	set := func(i int, x api.Cell, we api.Errno) {
		t.Helper()
		if e := f.SetLocal(i, x); e != we {
			t.Errorf("SetLocal(%d, %d) = %d, want %d", i, x, e, we)
		}
	}
	get(0, 0, thFrame)
	set(0, 1, thFrame)
	f.Push(api.Frame{Kind: locals, L: []api.Cell{10, 20, 30}})
	get(2, 30, ok)
	get(3, 0, thFrame)
	get(-1, 0, thFrame)
	set(1, 21, ok)
	get(1, 21, ok)
	f.Push(api.Frame{Kind: loop, L: []api.Cell{1}})
	f.Push(api.Frame{Kind: catch})
	f.Push(api.Frame{Kind: cell})
	f.Push(api.Frame{Kind: token})
	f.Push(api.Frame{Kind: recog})
	get(0, 10, ok)
	set(0, 11, ok)
	f.Push(api.Frame{Kind: call, L: []api.Cell{2}})
	get(0, 0, thFrame)
	set(0, 12, thFrame)
	f.Push(api.Frame{Kind: locals, L: []api.Cell{40}})
	get(0, 40, ok)
	get(1, 0, thFrame)
	f.Push(api.Frame{Kind: locals})
	get(0, 0, thFrame)
	set(0, 41, thFrame)
	f.Cut(8)
	get(0, 40, ok)
	f.Cut(6)
	get(0, 11, ok)
	f.Cut(1)
	if x, e := f.Pop(locals); e != ok || !slices.Equal(x.L, []api.Cell{11, 21, 30}) {
		t.Errorf("Pop(locals) = %+v, %d", x, e)
	}
}

// TestP143Many: P14.3, every index of as many locals as one likes.
func TestP143Many(t *testing.T) {
	for _, n := range []int{0, 1, 2, 15, 16, 17, 100, 300} {
		l := make([]api.Cell, n, 2*n)
		for i := range l {
			l[i] = api.Cell(3*i - 40)
		}
		w := of(t, api.Frame{Kind: locals, L: l}, api.Frame{Kind: cell})
		for _, i := range append(someNumbers(), n-1, n, n+1, 2*n-1, 2*n) {
			w.local(i)
			w.setLocal(i, api.Cell(i)+7)
			w.local(i)
		}
		w.all()
	}
}

// TestP143Catch: P14.3, every stack of four frames.
func TestP143Catch(t *testing.T) {
	of(t).catch()
	for _, a := range kinds() {
		for _, b := range kinds() {
			for _, c := range []int{call, loop, catch, 0, 1<<32 + catch} {
				w := ofKinds(t, c, a, b, a)
				w.catch()
				w.all()
				w.catch()
				w.all()
				w.catch()
			}
		}
	}
	w := ofKinds(t, call, catch, loop, catch, cell, cell)
	if x, is := w.f.Catch(); !is || !same(x, ofKind(catch, 3)) || w.f.Depth() != 3 {
		t.Errorf("Catch() = %+v, %v, the depth is %d", x, is, w.f.Depth())
	}
	if x, is := w.f.Catch(); !is || !same(x, ofKind(catch, 1)) || w.f.Depth() != 1 {
		t.Errorf("Catch() = %+v, %v, the depth is %d", x, is, w.f.Depth())
	}
	if x, is := w.f.Catch(); is || !same(x, api.Frame{}) || w.f.Depth() != 1 {
		t.Errorf("Catch() of none = %+v, %v, the depth is %d", x, is, w.f.Depth())
	}
}

// TestP144Steps: P14.4, a loop with steps of 1 makes as many of them as its numbers differ by, wherever they lie.
func TestP144Steps(t *testing.T) {
	for _, from := range someCells() {
		for _, steps := range []int{1, 2, 3, 10, 255, 1000} {
			f := frame.New()
			f.Push(api.Frame{Kind: loop, X: from, Y: sum(from, api.Cell(steps))})
			n := 1
			for ; n <= steps; n++ {
				if end, e := f.Step(1); end || e != ok {
					break
				}
				if i, _ := f.Index(0); i != sum(from, api.Cell(n)) {
					t.Errorf("a loop from %d is at %d after %d steps", from, i, n)
				}
			}
			if n != steps || f.Depth() != 0 {
				t.Errorf("a loop from %d with %d steps made %d", from, steps, n)
			}
		}
	}
}

// TestP144Far: P14.4, where nobody can count the steps: a step of 1 ends the loop if the next number is the limit, and at no other number.
func TestP144Far(t *testing.T) {
	for _, x := range someCells() {
		for _, y := range append(someCells(), sum(x, 1), sum(x, 2), x, less(x, 1)) {
			f := frame.New()
			f.Push(api.Frame{Kind: loop, X: x, Y: y})
			if end, e := f.Step(1); end != (sum(x, 1) == y) || e != ok {
				t.Errorf("a loop at %d up to %d: Step(1) = %v, %d", x, y, end, e)
			}
		}
	}
}

// spoil writes over a list, and over what lies behind its end.
func spoil(l []api.Cell) {
	l = l[:cap(l)]
	for i := range l {
		l[i] = 99
	}
}

// TestOwn: rules 4 and 5, what was handed in or out shares nothing with the frames.
func TestOwn(t *testing.T) {
	l := []api.Cell{1, 2, 3, 4, 5}
	w := of(t, api.Frame{Kind: locals, L: l[:3]})
	if want := []api.Cell{1, 2, 3, 4, 5}; !slices.Equal(l, want) {
		t.Errorf("Push made %v of its argument", l)
	}
	w.setLocal(0, 6)
	w.setLocal(3, 7)
	if want := []api.Cell{1, 2, 3, 4, 5}; !slices.Equal(l, want) {
		t.Errorf("SetLocal made %v of what was pushed", l)
	}
	spoil(l)
	w.same("a change of what was pushed")

	first, _ := w.f.Top()
	second, _ := w.f.Top()
	spoil(first.L)
	w.same("a change of what Top told")
	w.setLocal(1, 8)
	if want := []api.Cell{6, 2, 3}; !slices.Equal(second.L, want) {
		t.Errorf("what Top told became %v, want %v", second.L, want)
	}
	popped, _ := w.f.Pop(locals)
	w.l = nil
	w.push(api.Frame{Kind: locals, L: []api.Cell{10, 11, 12}})
	w.setLocal(2, 13)
	if want := []api.Cell{6, 8, 3}; !slices.Equal(popped.L, want) {
		t.Errorf("what Pop told became %v, want %v", popped.L, want)
	}
	spoil(popped.L)
	w.same("a change of what Pop told")
}

// TestOwnCatch: rules 4 and 5, of a frame that catches and of two that were pushed as one.
func TestOwnCatch(t *testing.T) {
	x := api.Frame{Kind: catch, L: []api.Cell{1, 2}}
	f := frame.New()
	f.Push(x)
	f.Push(x)
	f.Push(api.Frame{Kind: cell})
	got, _ := f.Catch()
	spoil(got.L)
	again, _ := f.Catch()
	if !slices.Equal(again.L, []api.Cell{1, 2}) || !slices.Equal(x.L, []api.Cell{1, 2}) {
		t.Errorf("a change of what Catch told made %v of the other frame, %v of what was pushed", again.L, x.L)
	}
	y := api.Frame{Kind: locals, L: []api.Cell{3, 4}}
	f.Push(y)
	f.Push(y)
	f.SetLocal(0, 5)
	f.Pop(locals)
	if n, e := f.Local(0); n != 3 || e != ok {
		t.Errorf("a local of a frame is %d, %d after a change in another one", n, e)
	}
}

// TestExample: the chapter's example.
func TestExample(t *testing.T) {
	f := frame.New()
	f.Push(api.Frame{Kind: loop, X: 0, Y: 2})
	if end, e := f.Step(1); end || e != ok {
		t.Errorf("Step(1) = %v, %d", end, e)
	}
	if end, e := f.Step(1); !end || e != ok {
		t.Errorf("Step(1) = %v, %d", end, e)
	}
}

// some are a few frames by chance, with many loops and locals among them.
func some(r *rand.Rand) api.Frame {
	x := ofKind(1+r.Intn(7), r.Intn(90))
	if r.Intn(3) == 0 {
		x.Kind = []int{loop, locals}[r.Intn(2)]
	}
	if r.Intn(40) == 0 {
		x.Kind = kinds()[r.Intn(len(kinds()))]
	}
	if x.Kind == loop {
		x.X = someCells()[r.Intn(len(someCells()))]
		x.Y = x.X + api.Cell(r.Intn(9)-4)
	}
	return x
}

// TestMixed: P14.1 to P14.3, long rows of calls, up to all that there may be and back.
func TestMixed(t *testing.T) {
	for seed := range int64(60) {
		r := rand.New(rand.NewSource(seed))
		w := of(t)
		for at := range 3000 {
			grows := at/200%2 == 0
			switch n := r.Intn(30); {
			case n < 12 && grows || n < 4:
				w.push(some(r))
			case n < 12:
				w.pop(kindToPop(w.l, r))
			case n == 12 && r.Intn(8) == 0:
				w.cut(len(w.l) - r.Intn(6))
			case n == 13 && r.Intn(4) == 0:
				w.catch()
			case n < 18:
				w.step(api.Cell(r.Intn(7) - 3))
			case n < 20:
				w.step(someCells()[r.Intn(len(someCells()))])
			case n < 24:
				w.setLocal(r.Intn(7)-1, api.Cell(r.Intn(1000)))
			case n < 27:
				w.local(r.Intn(7) - 1)
			default:
				w.index(r.Intn(5) - 1)
			}
		}
		w.asked()
		w.all()
	}
}

// kindToPop is mostly that of the top frame.
func kindToPop(l []api.Frame, r *rand.Rand) int {
	if len(l) == 0 || r.Intn(10) == 0 {
		return kinds()[r.Intn(len(kinds()))]
	}
	return l[len(l)-1].Kind
}

// TestNil: of nil Frames, the methods that return an error return ErrNone, and every other result is its zero value.
func TestNil(t *testing.T) {
	var f *frame.Frames
	for n := -1; n <= 1; n++ {
		for _, kind := range kinds() {
			if e := f.Push(ofKind(kind, 3)); e != errNone {
				t.Errorf("Push = %d", e)
			}
			if x, e := f.Pop(kind); e != errNone || !same(x, api.Frame{}) {
				t.Errorf("Pop(%d) = %+v, %d", kind, x, e)
			}
		}
		f.Cut(n)
		if x, e := f.Index(n); x != 0 || e != errNone {
			t.Errorf("Index(%d) = %d, %d", n, x, e)
		}
		if end, e := f.Step(api.Cell(n)); end || e != errNone {
			t.Errorf("Step(%d) = %v, %d", n, end, e)
		}
		if x, e := f.Local(n); x != 0 || e != errNone {
			t.Errorf("Local(%d) = %d, %d", n, x, e)
		}
		if e := f.SetLocal(n, 5); e != errNone {
			t.Errorf("SetLocal(%d, 5) = %d", n, e)
		}
	}
	if x, is := f.Top(); is || !same(x, api.Frame{}) {
		t.Errorf("Top() = %+v, %v", x, is)
	}
	if x, is := f.Catch(); is || !same(x, api.Frame{}) {
		t.Errorf("Catch() = %+v, %v", x, is)
	}
	if n := f.Depth(); n != 0 {
		t.Errorf("Depth() = %d", n)
	}
}

// TestUnmade: Frames that New did not make are a stack of no frames.
func TestUnmade(t *testing.T) {
	w := &watched{t, &frame.Frames{}, nil}
	w.asked()
	w.step(1)
	w.setLocal(0, 1)
	w.catch()
	w.cut(3)
	w.pop(0)
	w.push(ofKind(locals, 2))
	w.all()
}
