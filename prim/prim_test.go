package prim_test

import (
	"math"
	"math/rand"
	"slices"
	"strconv"
	"strings"
	"testing"

	"rhyton/api"
	"rhyton/prim"
	"rhyton/real"
	"rhyton/table"
)

// effect is how many cells operations take, and how many they push at most: those from the first one to the last one.
type effect struct{ first, last, takes, pushes int }

// effects are all operations of this layer, in the order of their numbers, but those of layer 6, which take and push by themselves.
func effects() []effect {
	return []effect{
		{api.PmNegate, api.PmNonZero, 1, 1}, {api.PmAdd, api.PmMax, 2, 1},
		{api.PmWide, api.PmWide, 1, 2}, {api.PmAdd2, api.PmSub2, 4, 2}, {api.PmNeg2, api.PmAbs2, 2, 2}, {api.PmLess2, api.PmEqual2, 4, 1}, {api.PmTwice2, api.PmHalf2, 2, 2}, {api.PmMulW, api.PmUMulW, 2, 2}, {api.PmUDivW, api.PmTruncW, 3, 2}, {api.PmScale, api.PmScale, 3, 1}, {api.PmScaleMod, api.PmScaleMod, 3, 2}, {api.PmDivMod, api.PmDivMod, 2, 2},
		{api.PmRNeg, api.PmRAbs, 1, 1}, {api.PmRAdd, api.PmREqual, 2, 1}, {api.PmToReal, api.PmFromReal, 1, 1},
		{api.PmGet, api.PmGet, 1, 1}, {api.PmPut, api.PmPut, 2, 0}, {api.PmGetC, api.PmGetC, 1, 1}, {api.PmPutC, api.PmAddTo, 2, 0}, {api.PmGet2, api.PmGet2, 1, 2}, {api.PmPut2, api.PmMove, 3, 0}, {api.PmHere, api.PmHere, 0, 1}, {api.PmAllot, api.PmCComma, 1, 0}, {api.PmAlign, api.PmAlign, 0, 0}, {api.PmAligned, api.PmBytes, 1, 1}, {api.PmCount, api.PmCount, 1, 2},
		{api.PmEmit, api.PmUDot, 1, 0}, {api.PmDDot, api.PmDDot, 2, 0}, {api.PmRDot, api.PmRDot, 1, 0}, {api.PmCr, api.PmSpace, 0, 0}, {api.PmSpaces, api.PmSpaces, 1, 0}, {api.PmType, api.PmType, 2, 0}, {api.PmShow, api.PmShow, 0, 0},
		{api.PmDecimal, api.PmBegin, 0, 0}, {api.PmDigit, api.PmDigits, 2, 2}, {api.PmHold, api.PmSign, 1, 0}, {api.PmEnd, api.PmEnd, 2, 2},
	}
}

// stackTakes is how many cells an operation of layer 6 takes (pick and roll: with the 0 that they are given here).
func stackTakes() map[int]int {
	return map[int]int{api.PmDup: 1, api.PmDrop: 1, api.PmSwap: 2, api.PmOver: 2, api.PmRot: 3, api.PmNip: 2, api.PmTuck: 2, api.PmQDup: 1, api.PmDup2: 2, api.PmDrop2: 2, api.PmSwap2: 4, api.PmOver2: 4, api.PmPick: 2, api.PmRoll: 2, api.PmDepth: 0}
}

// each calls what it is given for every operation of effects.
func each(do func(op, takes, pushes int)) {
	for _, x := range effects() {
		for op := x.first; op <= x.last; op++ {
			do(op, x.takes, x.pushes)
		}
	}
}

// operands are cells that an operation takes without an error.
func operands(op int) []api.Cell {
	switch op {
	case api.PmUDivW, api.PmFloorW, api.PmTruncW:
		return []api.Cell{8, 0, 8}
	case api.PmPick, api.PmRoll:
		return []api.Cell{8, 0}
	}
	return []api.Cell{8, 8, 8, 8}
}

// edges are the numbers at which answers change for a memory of the least size, and great ones that wrap around or are cut.
func edges() []api.Cell {
	return []api.Cell{
		least, least + 1, least + 7, least + 8, -1 << 61, -1 << 32, -leastSize, -513, -256, -255, -16, -9, -8, -7, -2, -1,
		0, 1, 2, 3, 7, 8, 9, 10, 16, 35, 36, 37, 65, 127, 128, 255, 256, 257, 503, 504, 505, 511, 512, 513, 568, 767, 768,
		1000, 1008, 1009, 1015, 1016, 1017, 1023, 1024, 1025, 1 << 32, 1<<32 + 8, 1 << 52, 0x3FF8 << 48, 0x4008 << 48, 1 << 62, 0x7FF0 << 48, api.NoReal, greatest - 8, greatest - 7, greatest,
	}
}

// someEdges are fewer of them, for three at once.
func someEdges() []api.Cell {
	return []api.Cell{least, least + 8, -leastSize, -9, -8, -7, -1, 0, 1, 3, 8, 10, 255, 256, 504, 512, 768, 1008, 1009, 1016, 1017, 1024, 1 << 32, 1 << 62, greatest - 7, greatest}
}

// somePairs are pairs whose halves are edges.
func somePairs() [][]api.Cell {
	halves := []api.Cell{least, least + 1, -2, -1, 0, 1, 2, greatest}
	var l [][]api.Cell
	for _, lo := range halves {
		for _, hi := range halves {
			l = append(l, []api.Cell{lo, hi})
		}
	}
	return l
}

// cellOf is the cell that a word of a row stands for; false: it is the name of an operation.
func cellOf(word string) (api.Cell, bool) {
	switch word {
	case "least":
		return least, true
	case "greatest":
		return greatest, true
	case "inf":
		return 0x7FF0 << 48, true
	case "nan":
		return api.NoReal, true
	}
	if n, err := strconv.ParseInt(word, 0, 64); err == nil {
		return api.Cell(n), true
	}
	return real.Number(word)
}

func cellsOf(t *testing.T, text string) []api.Cell {
	t.Helper()
	var l []api.Cell
	for _, word := range strings.Fields(text) {
		x, known := cellOf(word)
		if !known {
			t.Fatalf("%q of %q is no cell", word, text)
		}
		l = append(l, x)
	}
	return l
}

// perform pushes the cells and executes the operations of a row, which are named as layer 12 names them: the last one's error.
func perform(t *testing.T, s *prim.State, text string) api.Errno {
	t.Helper()
	e := ok
	for _, word := range strings.Fields(text) {
		if x, known := cellOf(word); known {
			s.Stack().Push(x)
			continue
		}
		w, known := table.Find(word)
		if !known || w.Kind != api.WkPrim {
			t.Fatalf("%q of %q is no operation", word, text)
		}
		e = s.Do(w.N)
	}
	return e
}

// row is what is done in a new state of 1,024 bytes, the cells that are there then, the output, and the error of what was done last.
type row struct {
	text, cells, out string
	e                api.Errno
}

func checkRows(t *testing.T, rows []row) {
	t.Helper()
	for _, x := range rows {
		s, _ := prim.New(leastSize)
		e := perform(t, s, x.text)
		if l := s.Stack().All(); e != x.e || !slices.Equal(l, cellsOf(t, x.cells)) || s.Out() != x.out {
			t.Errorf("%s: %v, %q, %d, want %s, %q, %d", x.text, l, s.Out(), e, x.cells, x.out, x.e)
		}
	}
}

// TestExample: the chapter's example.
func TestExample(t *testing.T) {
	s, e := prim.New(1024)
	if e != ok {
		t.Fatal(e)
	}
	if e := s.Do(api.PmHere); e != ok || !slices.Equal(s.Stack().All(), []api.Cell{8}) {
		t.Errorf("PmHere: %d, %v", e, s.Stack().All())
	}
	if e := s.Do(api.PmDot); e != ok || s.Out() != "8 " || s.Stack().Depth() != 0 {
		t.Errorf("PmDot: %d, %q, %v", e, s.Out(), s.Stack().All())
	}
}

// TestP131New: P13.1, which sizes are taken, and what a state is at first.
func TestP131New(t *testing.T) {
	for size := -50; size <= mostSize+2000; size++ {
		if size >= leastSize && size <= mostSize && size%width == 0 {
			if size%1000 == 0 || size < 1100 || size > mostSize-100 {
				newWatched(t, size).same("New(" + strconv.Itoa(size) + ")")
			}
			continue
		}
		if s, e := prim.New(size); s != nil || e != errArg {
			t.Fatalf("New(%d) = %v, %d", size, s, e)
		}
	}
	for _, size := range []int{math.MinInt, -65536, -1024, 1 << 17, 1 << 31, 1 << 32, 1<<32 + 1024, 1 << 62, math.MaxInt - 7, math.MaxInt} {
		if s, e := prim.New(size); s != nil || e != errArg {
			t.Errorf("New(%d) = %v, %d", size, s, e)
		}
	}
	w := newWatched(t, leastSize)
	if base, e := w.s.Base(); base != 10 || e != ok || w.s.Mem().Here() != 8 || w.s.Stack().Depth() != 0 || w.s.Out() != "" {
		t.Errorf("a new state: base %d, %d, here %d, %v, %q", base, e, w.s.Mem().Here(), w.s.Stack().All(), w.s.Out())
	}
}

// TestP131Own: P13.1, stack and memory are always the same ones, operations work on them, and no two states share anything.
func TestP131Own(t *testing.T) {
	a, b := newWatched(t, leastSize), newWatched(t, leastSize)
	stack, mem := a.s.Stack(), a.s.Mem()
	stack.Put(7, 800)
	if e := a.s.Do(api.PmPut); e != ok || stack.Depth() != 0 {
		t.Errorf("PmPut: %d, %v", e, stack.All())
	}
	if x, e := mem.Get(800); x != 7 || e != ok {
		t.Errorf("Get(800) = %d, %d", x, e)
	}
	if a.s.Stack() != stack || a.s.Mem() != mem || b.s.Stack() == stack || b.s.Mem() == mem {
		t.Error("the stack or the memory is not the state's own")
	}
	perform(t, a.s, "1 2 88 hold 16 allot hex 3 emit")
	a.s.Note("abc")
	b.same("operations of another state")
	perform(t, b.s, "1 2 3 drop drop drop")
	out := a.s.Out()
	a.s.Say("more")
	if out != "\x03" || a.s.Out() != "\x03more" {
		t.Errorf("Out() = %q, then %q", out, a.s.Out())
	}
}

// TestP131Say: P13.1, texts of any bytes, up to the limit; what is beyond it is lost, also part of a text.
func TestP131Say(t *testing.T) {
	w := newWatched(t, leastSize)
	say := func(text string) {
		t.Helper()
		w.s.Say(text)
		w.o.say(text)
		w.same("Say")
	}
	for _, text := range []string{"", "a", "", "\x00\xff\n \u00e9", strings.Repeat("x", 3000), strings.Repeat("y", 991), "z", "0123456789", "w", "", strings.Repeat("v", 9000)} {
		say(text)
	}
	if out := w.s.Out(); len(out) != 4000 || out[3999] != '0' || out[3998] != 'z' {
		t.Errorf("the output has %d bytes", len(out))
	}
	for _, n := range []int{3999, 4000, 4001, 8000} {
		w = newWatched(t, leastSize)
		say(strings.Repeat("ab", n)[:n])
		say("c")
		say("d")
	}
}

// TestP131Limit: P13.1, all that outputs is cut at the limit.
func TestP131Limit(t *testing.T) {
	for _, left := range []int{0, 1, 2, 3, 5} {
		for _, op := range []int{api.PmEmit, api.PmDot, api.PmUDot, api.PmDDot, api.PmRDot, api.PmCr, api.PmSpace, api.PmSpaces, api.PmType, api.PmShow} {
			w := newWatched(t, leastSize)
			w.s.Say(strings.Repeat("x", mostOut-left))
			w.o.say(strings.Repeat("x", mostOut-left))
			w.push(-12345, 1, 8, 4)
			w.do(op)
			w.do(op)
		}
	}
}

// TestP131Note: P13.1, texts of all lengths, each at the same place; what the one before wrote behind remains.
func TestP131Note(t *testing.T) {
	for _, size := range []int{leastSize, leastSize + 8, mostSize} {
		w := newWatched(t, size)
		w.set(8)
		for _, n := range []int{0, 1, 5, 255, 256, 257, 300, 5000, 2, 0} {
			text := strings.Repeat("ab\x00\xff"+strconv.Itoa(n), n)[:n]
			at, many := w.s.Note(text)
			if at != api.Cell(size-256) || many != api.Cell(min(n, 256)) {
				t.Errorf("Note of %d bytes = %d, %d in %d bytes", n, at, many, size)
			}
			copy(w.o.bytes[size-256:], text)
			w.same("Note of " + strconv.Itoa(n) + " bytes")
		}
	}
}

// TestP131Base: P13.1, the cell at address 0, whoever stored it there.
func TestP131Base(t *testing.T) {
	s, _ := prim.New(leastSize)
	check := func(x api.Cell) {
		t.Helper()
		want, we := int(x), ok
		if x < 2 || x > 36 {
			want, we = 0, thBase
		}
		if base, e := s.Base(); base != want || e != we {
			t.Errorf("Base() with %d at address 0 = %d, %d", x, base, e)
		}
	}
	for _, x := range append(edges(), -1<<32+10, 1<<32+10, 1<<40+2, 1<<63-2) {
		s.Mem().Put(0, x)
		check(x)
	}
	for x := api.Cell(-5); x < 300; x++ {
		s.Stack().Put(x, 0)
		s.Do(api.PmPut)
		check(x)
	}
	s.Mem().Allot(-8)
	s.Do(api.PmHex)
	check(16)
	s.Mem().PutByte(5, 1)
	check(16 + 1<<40)
}

// TestP132Arg: P13.2, numbers of no operation, whatever is on the stack.
func TestP132Arg(t *testing.T) {
	wrong := []int{math.MinInt, math.MinInt + 1, -1 << 32, -1000, -2, -1, 0, api.PmLast, api.PmLast + 1, api.PmLast + 2, 200, 255, 256, 257, 1000, 1 << 16, 1 << 32, 1<<32 + 1, 1<<32 + api.PmDot, math.MaxInt}
	for n := range 100 {
		wrong = append(wrong, -n, api.PmEnd+1+n)
	}
	for _, depth := range []int{0, 1, 10, mostDeep} {
		w := newWatched(t, leastSize)
		w.push(make([]api.Cell, depth)...)
		for _, op := range wrong {
			if e := w.s.Do(op); e != errArg {
				t.Errorf("Do(%d) at a depth of %d = %d", op, depth, e)
			}
		}
		w.same("Do of wrong numbers")
	}
}

// TestP132All: every number from PmNegate to PmEnd is an operation, and each has its row here.
func TestP132All(t *testing.T) {
	seen := map[int]bool{}
	each(func(op, takes, pushes int) { seen[op] = true })
	for op := range stackTakes() {
		seen[op] = true
	}
	for op := 1; op <= api.PmEnd; op++ {
		if !seen[op] {
			t.Errorf("no row for %d", op)
		}
	}
	if len(seen) != api.PmEnd || api.PmLast != api.PmEnd+1 || api.PmCells != api.PmDup || api.PmStacks != api.PmWide {
		t.Errorf("%d rows for %d operations", len(seen), api.PmEnd)
	}
}

// TestP132Under: P13.2, too few cells come ahead of all other errors: here the base is none, the conversion text is full, no memory is left, and the cells are no addresses.
func TestP132Under(t *testing.T) {
	check := func(op, takes int) {
		w := newWatched(t, leastSize)
		w.set(511)
		w.setBase(1)
		for range mostHold {
			w.push('x')
			w.do(api.PmHold)
		}
		for depth := range takes {
			w.s.Stack().Cut(0)
			w.o.stack = nil
			w.push([]api.Cell{0, -1, 0}[3-depth:]...)
			if e := w.s.Do(op); e != thUnder {
				t.Errorf("Do(%d) of %d cells = %d", op, depth, e)
			}
			w.same("Do of too few cells")
		}
	}
	each(func(op, takes, pushes int) { check(op, takes) })
	for op, takes := range stackTakes() {
		check(op, takes)
	}
}

// TestP132Over: P13.2, results that do not fit, and those that just fit; an error of the operation comes ahead.
func TestP132Over(t *testing.T) {
	each(func(op, takes, pushes int) {
		for depth := mostDeep - 3; depth <= mostDeep; depth++ {
			w := newWatched(t, leastSize)
			w.set(16, append(make([]api.Cell, depth-takes), operands(op)[:takes]...)...)
			want := ok
			if depth-takes+pushes > mostDeep {
				want = thOver
			}
			if e := w.o.do(op); e != want {
				t.Fatalf("the model's Do(%d) at a depth of %d = %d", op, depth, e)
			}
			if e := w.s.Do(op); e != want {
				t.Errorf("Do(%d) at a depth of %d = %d, want %d", op, depth, e, want)
			}
			w.same("Do of a full stack")
		}
	})
	for op := range stackTakes() {
		for depth := mostDeep - 3; depth <= mostDeep; depth++ {
			w := newWatched(t, leastSize)
			w.set(16, make([]api.Cell, depth)...)
			w.do(op)
		}
	}
	for _, x := range []struct {
		op   int
		top  api.Cell
		want api.Errno
	}{{api.PmGet2, -8, thMem}, {api.PmGet2, 12, thAlign}, {api.PmGet2, 1016, thMem}, {api.PmGet2, 1008, thOver}, {api.PmCount, -1, thMem}, {api.PmCount, 1024, thMem}, {api.PmCount, 1023, thOver}, {api.PmWide, 1, thOver}, {api.PmHere, 1, thOver}, {api.PmDup, 1, thOver}, {api.PmDepth, 1, thOver}, {api.PmPick, 200, thUnder}} {
		w := newWatched(t, leastSize)
		w.set(16, append(make([]api.Cell, mostDeep-1), x.top)...)
		if e := w.s.Do(x.op); e != x.want {
			t.Errorf("Do(%d) of %d on a full stack = %d, want %d", x.op, x.top, e, x.want)
		}
		w.same("Do of a full stack")
	}
}

// TestP132Cells: P13.2, each operation of layer 1 and of layer 6, once by hand.
func TestP132Cells(t *testing.T) {
	checkRows(t, []row{
		{"9 5 negate", "9 -5", "", ok}, {"-5 abs", "5", "", ok}, {"5 invert", "-6", "", ok}, {"5 1+", "6", "", ok}, {"5 1-", "4", "", ok}, {"5 2*", "10", "", ok}, {"-5 2/", "-3", "", ok}, {"0 0=", "-1", "", ok}, {"-5 0<", "-1", "", ok}, {"5 0<>", "-1", "", ok},
		{"9 2 3 +", "9 5", "", ok}, {"2 3 -", "-1", "", ok}, {"2 3 *", "6", "", ok}, {"-7 2 /", "-4", "", ok}, {"-7 2 mod", "1", "", ok}, {"12 10 and", "8", "", ok}, {"12 10 or", "14", "", ok}, {"12 10 xor", "6", "", ok}, {"3 4 lshift", "48", "", ok}, {"-1 60 rshift", "15", "", ok},
		{"2 3 =", "0", "", ok}, {"2 3 <>", "-1", "", ok}, {"2 3 <", "-1", "", ok}, {"2 3 >", "0", "", ok}, {"2 -3 u<", "-1", "", ok}, {"2 3 min", "2", "", ok}, {"2 3 max", "3", "", ok},
		{"5 0 /", "5 0", "", thZero}, {"5 0 mod", "5 0", "", thZero}, {"5 +", "5", "", thUnder}, {"negate", "", "", thUnder}, {"greatest 1 +", "least", "", ok},
		{"1 2 dup", "1 2 2", "", ok}, {"1 2 drop", "1", "", ok}, {"1 2 swap", "2 1", "", ok}, {"1 2 over", "1 2 1", "", ok}, {"1 2 3 rot", "2 3 1", "", ok}, {"1 2 nip", "2", "", ok}, {"1 2 tuck", "2 1 2", "", ok}, {"1 2 ?dup", "1 2 2", "", ok}, {"1 0 ?dup", "1 0", "", ok},
		{"1 2 2dup", "1 2 1 2", "", ok}, {"1 2 3 2drop", "1", "", ok}, {"1 2 3 4 2swap", "3 4 1 2", "", ok}, {"1 2 3 4 2over", "1 2 3 4 1 2", "", ok}, {"7 8 1 pick", "7 8 7", "", ok}, {"7 8 9 2 roll", "8 9 7", "", ok}, {"5 5 depth", "5 5 2", "", ok}, {"7 1 pick", "7 1", "", thUnder}, {"dup", "", "", thUnder},
	})
}

// TestP132Pairs: P13.2, pairs, by hand: the high cell is on top of the low one.
func TestP132Pairs(t *testing.T) {
	checkRows(t, []row{
		{"9 5 s>d", "9 5 0", "", ok}, {"-5 s>d", "-5 -1", "", ok}, {"least s>d", "least -1", "", ok},
		{"9 1 2 3 4 d+", "9 4 6", "", ok}, {"-1 0 1 0 d+", "0 1", "", ok}, {"-1 greatest 1 0 d+", "0 least", "", ok}, {"1 2 3 4 d-", "-2 -3", "", ok}, {"0 1 1 0 d-", "-1 0", "", ok}, {"5 6 5 6 d-", "0 0", "", ok}, {"0 0 0 least d-", "0 least", "", ok},
		{"9 1 0 dnegate", "9 -1 -1", "", ok}, {"0 least dnegate", "0 least", "", ok}, {"0 1 dnegate", "0 -1", "", ok}, {"5 -1 dabs", "-5 0", "", ok}, {"5 1 dabs", "5 1", "", ok}, {"-5 0 dabs", "-5 0", "", ok}, {"0 least dabs", "0 least", "", ok},
		{"9 1 0 0 1 d<", "9 -1", "", ok}, {"1 0 1 0 d<", "0", "", ok}, {"0 -1 0 0 d<", "-1", "", ok}, {"0 0 0 -1 d<", "0", "", ok}, {"1 0 -1 0 d<", "-1", "", ok}, {"0 -1 0 0 du<", "0", "", ok}, {"0 0 0 -1 du<", "-1", "", ok}, {"1 5 2 5 du<", "-1", "", ok}, {"9 1 2 1 2 d=", "9 -1", "", ok}, {"1 2 2 1 d=", "0", "", ok}, {"1 2 1 3 d=", "0", "", ok}, {"1 2 3 2 d=", "0", "", ok},
		{"least 1 d2*", "0 3", "", ok}, {"0 least d2*", "0 0", "", ok}, {"1 3 d2/", "least 1", "", ok}, {"-1 -1 d2/", "-1 -1", "", ok}, {"9 0 -3 d2/", "9 least -2", "", ok},
		{"9 -3 5 m*", "9 -15 -1", "", ok}, {"least least m*", "0 0x4000000000000000", "", ok}, {"-1 -1 um*", "1 -2", "", ok}, {"9 -1 2 um*", "9 -2 1", "", ok},
		{"1 0 d+", "1 0", "", thUnder}, {"1 2 3 d<", "1 2 3", "", thUnder}, {"5 dabs", "5", "", thUnder}, {"5 m*", "5", "", thUnder}, {"s>d", "", "", thUnder},
	})
}

// TestP132Divisions: P13.2, by hand: the remainder, and the quotient on top of it.
func TestP132Divisions(t *testing.T) {
	checkRows(t, []row{
		{"9 7 0 2 um/mod", "9 1 3", "", ok}, {"-1 1 2 um/mod", "1 -1", "", ok}, {"0 2 2 um/mod", "0 2 2", "", thRange}, {"7 0 0 um/mod", "7 0 0", "", thZero}, {"5 9 0 um/mod", "5 9 0", "", thZero}, {"-7 -1 2 um/mod", "-7 -1 2", "", thRange}, {"-1 -2 -1 um/mod", "-2 -1", "", ok},
		{"9 -7 -1 2 fm/mod", "9 1 -4", "", ok}, {"7 0 -2 fm/mod", "-1 -4", "", ok}, {"0 1 1 fm/mod", "0 1 1", "", thRange}, {"least 0 -1 fm/mod", "0 least", "", ok}, {"least 0 1 fm/mod", "least 0 1", "", thRange}, {"7 0 0 fm/mod", "7 0 0", "", thZero},
		{"9 -7 -1 2 sm/rem", "9 -1 -3", "", ok}, {"7 0 -2 sm/rem", "1 -3", "", ok}, {"0 1 1 sm/rem", "0 1 1", "", thRange}, {"0 1 0 sm/rem", "0 1 0", "", thZero}, {"1 least -1 sm/rem", "1 least -1", "", thRange},
		{"9 10 7 3 */", "9 23", "", ok}, {"-7 1 2 */", "-4", "", ok}, {"greatest greatest greatest */", "greatest", "", ok}, {"0x4000000000000000 8 1 */", "0x4000000000000000 8 1", "", thRange}, {"1 1 0 */", "1 1 0", "", thZero},
		{"9 10 7 3 */mod", "9 1 23", "", ok}, {"-7 1 2 */mod", "1 -4", "", ok}, {"7 1 -2 */mod", "-1 -4", "", ok}, {"least least 1 */mod", "least least 1", "", thRange}, {"1 1 0 */mod", "1 1 0", "", thZero},
		{"9 -7 2 /mod", "9 1 -4", "", ok}, {"7 -2 /mod", "-1 -4", "", ok}, {"7 2 /mod", "1 3", "", ok}, {"1 0 /mod", "1 0", "", thZero}, {"least -1 /mod", "0 least", "", ok},
		{"1 2 um/mod", "1 2", "", thUnder}, {"1 0 */", "1 0", "", thUnder}, {"0 /mod", "0", "", thUnder},
	})
}

// TestP132Reals: P13.2, each operation of layer 4, once by hand.
func TestP132Reals(t *testing.T) {
	checkRows(t, []row{
		{"9 3p0 fnegate", "9 -3p0", "", ok}, {"-3p0 fabs", "3p0", "", ok}, {"9 3p0 1p-1 f+", "9 7p-1", "", ok}, {"3p0 1p-1 f-", "5p-1", "", ok}, {"3p0 1p-1 f*", "3p-1", "", ok}, {"3p0 1p1 f/", "3p-1", "", ok}, {"3p0 1p1 fmin", "1p1", "", ok}, {"3p0 1p1 fmax", "3p0", "", ok}, {"3p0 1p1 f<", "0", "", ok}, {"1p1 3p0 f<", "-1", "", ok}, {"3p0 3p0 f=", "-1", "", ok}, {"3p0 1p1 f=", "0", "", ok}, {"0p0 -0p0 f=", "-1", "", ok}, {"0p0 0p0 f/", "nan", "", ok}, {"1p0 0p0 f/", "inf", "", ok}, {"nan nan f=", "0", "", ok},
		{"9 7 s>f", "9 7p0", "", ok}, {"-1 s>f", "-1p0", "", ok}, {"9 -7p-1 f>s", "9 -3", "", ok}, {"7p-1 f>s", "3", "", ok}, {"inf f>s", "inf", "", thReal}, {"nan f>s", "nan", "", thReal}, {"1p63 f>s", "1p63", "", thReal}, {"-1p63 f>s", "least", "", ok},
		{"3p0 f+", "3p0", "", thUnder}, {"fnegate", "", "", thUnder}, {"f>s", "", "", thUnder},
	})
}

// TestP132Memory: P13.2, by hand: what lies where, and the errors; beside an error, nothing is stored.
func TestP132Memory(t *testing.T) {
	checkRows(t, []row{
		{"9 0 @", "9 10", "", ok}, {"8 @", "0", "", ok}, {"9 -2 800 ! 800 @", "9 -2", "", ok}, {"5 1016 ! 1016 @", "5", "", ok}, {"5 801 !", "5 801", "", thAlign}, {"5 1024 !", "5 1024", "", thMem}, {"5 1017 !", "5 1017", "", thMem}, {"5 -8 !", "5 -8", "", thMem}, {"4 @", "4", "", thAlign}, {"-8 @", "-8", "", thMem}, {"1020 @", "1020", "", thMem},
		{"0x1234 801 c! 800 @", "0x3400", "", ok}, {"-1 801 c! 801 c@ 800 c@", "255 0", "", ok}, {"1023 c@", "0", "", ok}, {"1024 c@", "1024", "", thMem}, {"7 -1 c!", "7 -1", "", thMem}, {"7 1024 c!", "7 1024", "", thMem},
		{"5 800 ! 9 -7 800 +! 800 @", "9 -2", "", ok}, {"greatest 800 ! 1 800 +! 800 @", "least", "", ok}, {"1 804 +!", "1 804", "", thAlign}, {"1 1024 +!", "1 1024", "", thMem},
		{"9 11 22 800 2! 800 @ 808 @", "9 22 11", "", ok}, {"11 22 800 2! 9 800 2@", "9 11 22", "", ok}, {"1 2 1008 2! 1008 2@", "1 2", "", ok}, {"1 2 1016 2! 1016 @", "1 2 1016 0", "", ok}, {"1 2 1016 2!", "1 2 1016", "", thMem}, {"1 2 804 2!", "1 2 804", "", thAlign}, {"1 2 -8 2!", "1 2 -8", "", thMem}, {"1 2 -7 2!", "1 2 -7", "", thMem}, {"1 2 1012 2!", "1 2 1012", "", thAlign}, {"1016 2@", "1016", "", thMem}, {"-8 2@", "-8", "", thMem}, {"804 2@", "804", "", thAlign}, {"0 2@", "0 10", "", ok},
		{"9 800 3 0x241 fill 800 @", "9 0x414141", "", ok}, {"800 0 1 fill 800 @", "0", "", ok}, {"800 -1 1 fill", "800 -1 1", "", thMem}, {"1020 5 1 fill", "1020 5 1", "", thMem}, {"1024 0 1 fill", "", "", ok}, {"1025 0 1 fill", "1025 0 1", "", thMem},
		{"0x030201 800 ! 9 800 801 3 move 800 @", "9 0x03020101", "", ok}, {"0x030201 800 ! 801 800 2 move 800 @", "0x030302", "", ok}, {"800 1020 5 move", "800 1020 5", "", thMem}, {"1020 800 5 move", "1020 800 5", "", thMem}, {"0 8 -1 move", "0 8 -1", "", thMem},
		{"800 !", "800", "", thUnder}, {"1 800 2!", "1 800", "", thUnder}, {"1 2 fill", "1 2", "", thUnder}, {"@", "", "", thUnder},
	})
}

// TestP132Allot: P13.2, by hand: here, what is allocated, and addresses.
func TestP132Allot(t *testing.T) {
	checkRows(t, []row{
		{"here", "8", "", ok}, {"9 3 allot here", "9 11", "", ok}, {"504 allot here", "512", "", ok}, {"505 allot", "505", "", thRoom}, {"505 allot here", "505 8", "", ok}, {"-8 allot here", "0", "", ok}, {"-9 allot", "-9", "", thRoom}, {"greatest allot", "greatest", "", thRoom}, {"least allot", "least", "", thRoom}, {"allot", "", "", thUnder},
		{"9 -5 , here 8 @", "9 16 -5", "", ok}, {"1 allot 5 ,", "5", "", thAlign}, {"504 allot 5 ,", "5", "", thRoom}, {"496 allot 5 , here 504 @", "512 5", "", ok}, {",", "", "", thUnder},
		{"9 0x141 c, here 8 @", "9 9 0x41", "", ok}, {"504 allot 5 c,", "5", "", thRoom}, {"503 allot 5 c, here 511 c@", "512 5", "", ok}, {"c,", "", "", thUnder},
		{"align here", "8", "", ok}, {"1 allot align here", "16", "", ok}, {"7 allot align here", "16", "", ok}, {"503 allot align here", "512", "", ok}, {"-7 allot align here", "8", "", ok},
		{"9 0 aligned", "9 0", "", ok}, {"1 aligned", "8", "", ok}, {"7 aligned", "8", "", ok}, {"8 aligned", "8", "", ok}, {"-1 aligned", "0", "", ok}, {"-8 aligned", "-8", "", ok}, {"-9 aligned", "-8", "", ok}, {"5000 aligned", "5000", "", ok}, {"greatest aligned", "least", "", ok}, {"least aligned", "least", "", ok}, {"aligned", "", "", thUnder},
		{"9 5 cells", "9 40", "", ok}, {"-1 cells", "-8", "", ok}, {"0x1000000000000001 cells", "-0x7ffffffffffffff8", "", ok}, {"greatest cells", "-8", "", ok}, {"cells", "", "", thUnder},
	})
}

// TestP132Output: P13.2, by hand: the output, and the errors; beside an error, nothing is output.
func TestP132Output(t *testing.T) {
	checkRows(t, []row{
		{"9 65 emit", "9", "A", ok}, {"0x141 emit", "", "A", ok}, {"-1 emit 0 emit", "", "\xff\x00", ok}, {"emit", "", "", thUnder},
		{"9 7 .", "9", "7 ", ok}, {"-7 .", "", "-7 ", ok}, {"0 .", "", "0 ", ok}, {"least .", "", "-9223372036854775808 ", ok}, {"hex -255 .", "", "-FF ", ok}, {"36 0 ! -35 .", "", "-Z ", ok}, {"2 0 ! 5 .", "", "101 ", ok}, {"1 0 ! 5 .", "5", "", thBase}, {"37 0 ! 5 .", "5", "", thBase}, {"0 0 ! .", "", "", thUnder},
		{"9 7 u.", "9", "7 ", ok}, {"-5 u.", "", "18446744073709551611 ", ok}, {"hex least u.", "", "8000000000000000 ", ok}, {"1 0 ! 5 u.", "5", "", thBase}, {"u.", "", "", thUnder},
		{"9 7 0 d.", "9", "7 ", ok}, {"0 1 d.", "", "18446744073709551616 ", ok}, {"-7 -1 d.", "", "-7 ", ok}, {"0 least d.", "", "-170141183460469231731687303715884105728 ", ok}, {"hex -1 greatest d.", "", "7FFFFFFFFFFFFFFFFFFFFFFFFFFFFFFF ", ok}, {"1 0 ! 5 6 d.", "5 6", "", thBase}, {"5 d.", "5", "", thUnder},
		{"9 7p-1 f.", "9", "7p-1 ", ok}, {"-0p0 f.", "", "-0p0 ", ok}, {"nan f. inf f.", "", "nan inf ", ok}, {"1 0 ! 3p0 f.", "", "3p0 ", ok}, {"f.", "", "", thUnder},
		{"9 cr", "9", "\n", ok}, {"space space", "", "  ", ok}, {"9 3 spaces", "9", "   ", ok}, {"0 spaces", "", "", ok}, {"-3 spaces least spaces", "", "", ok}, {"4000 spaces 1 spaces 65 emit", "", strings.Repeat(" ", 4000), ok}, {"greatest spaces", "", strings.Repeat(" ", 4000), ok}, {"1 32 lshift 3 + spaces", "", strings.Repeat(" ", 4000), ok}, {"spaces", "", "", thUnder},
		{"0x636261 800 ! 9 800 2 type", "9", "ab", ok}, {"800 0 type", "", "", ok}, {"1024 0 type", "", "", ok}, {"1025 0 type", "1025 0", "", thMem}, {"800 -1 type", "800 -1", "", thMem}, {"1020 5 type", "1020 5", "", thMem}, {"greatest 5 type", "greatest 5", "", thMem}, {"5 type", "5", "", thUnder},
		{".s", "", "<0> ", ok}, {"1 -2 .s", "1 -2", "<2> 1 -2 ", ok}, {"-255 16 hex .s", "-255 16", "<2> -FF 10 ", ok}, {"2 0 ! 1 2 3 .s", "1 2 3", "<3> 1 10 11 ", ok}, {"1 0 ! 5 .s", "5", "", thBase}, {"1 0 ! .s", "", "", thBase},
	})
	s, _ := prim.New(leastSize)
	s.Do(api.PmHex)
	s.Stack().Cut(mostDeep)
	if e := s.Do(api.PmShow); e != ok || s.Out() != "<128> "+strings.Repeat("0 ", mostDeep) || s.Stack().Depth() != mostDeep {
		t.Errorf("PmShow of a full stack: %d, %q", e, s.Out())
	}
}

// TestP132Texts: P13.2, by hand: the conversion text, and the base.
func TestP132Texts(t *testing.T) {
	checkRows(t, []row{
		{"hex 0 @", "16", "", ok}, {"hex decimal 0 @", "10", "", ok}, {"77 0 ! decimal 0 @", "10", "", ok}, {"9 hex", "9", "", ok},
		{"9 0 0 #>", "9 768 0", "", ok}, {"9 123 0 #", "9 12 0", "", ok}, {"123 0 # # #> type", "", "23", ok}, {"123 0 #s", "0 0", "", ok}, {"9 123 0 #s #> type", "9", "123", ok}, {"0 0 #s #> type", "", "0", ok}, {"0 0 # # #> type", "", "00", ok}, {"5 7 #>", "768 0", "", ok},
		{"123 0 <# #s #>", "765 3", "", ok}, {"123 0 #s #> type 5 6 #> type", "", "123123", ok}, {"123 0 #s <# 0 0 #> type", "0 0", "", ok}, {"1 0 # 2 0 # 2drop #> type", "", "21", ok},
		{"-1 -1 #s #> type", "", "340282366920938463463374607431768211455", ok}, {"hex 0 1 #s #> type", "", "10000000000000000", ok}, {"36 0 ! 35 0 #s #> type", "", "Z", ok}, {"0 1 #", "1844674407370955161 0", "", ok}, {"0 10 #", "0 1", "", ok},
		{"9 65 hold", "9", "", ok}, {"65 hold 0x142 hold 0 0 #> type", "", "BA", ok}, {"-1 hold 0 0 #> drop c@", "255", "", ok}, {"9 -1 sign 0 0 #> type", "9", "-", ok}, {"0 sign 1 sign greatest sign 0 0 #> type", "", "", ok}, {"least sign 0 0 #> type", "", "-", ok},
		{"<# -123 dup abs s>d #s rot sign #> type", "", "-123", ok}, {"<# 12345 0 # # 46 hold #s #> type", "", "123.45", ok},
		{"1 0 ! 5 6 #", "5 6", "", thBase}, {"37 0 ! 5 6 #s", "5 6", "", thBase}, {"1 0 ! 5 6 #>", "768 0", "", ok}, {"1 0 ! 65 hold -1 sign 0 0 #> type", "", "-A", ok}, {"-5 0 ! decimal 5 .", "", "5 ", ok},
		{"5 #", "5", "", thUnder}, {"5 #s", "5", "", thUnder}, {"5 #>", "5", "", thUnder}, {"hold", "", "", thUnder}, {"sign", "", "", thUnder},
	})
	for _, size := range []int{leastSize, leastSize + 8, mostSize} {
		s, _ := prim.New(size)
		perform(t, s, "<# 123 0 #s #>")
		if l := s.Stack().All(); !slices.Equal(l, []api.Cell{api.Cell(size - 256 - 3), 3}) {
			t.Errorf("PmEnd in %d bytes: %v", size, l)
		}
	}
}

// held is a state whose conversion text has so many bytes, all x.
func held(t *testing.T, n int) *watched {
	t.Helper()
	w := newWatched(t, leastSize)
	for range n {
		w.push('x')
		w.do(api.PmHold)
	}
	return w
}

// TestP132Hold: P13.2, the conversion text near its limit: what does not fit changes nothing, also where it would fit in part.
func TestP132Hold(t *testing.T) {
	for _, x := range []struct {
		bytes int
		text  string
		e     api.Errno
	}{
		{199, "65 hold", ok}, {200, "65 hold", thHold}, {200, "0 hold", thHold}, {200, "hold", thUnder}, {199, "-1 sign", ok}, {200, "-1 sign", thHold}, {200, "1 sign", ok}, {200, "0 sign", ok}, {200, "sign", thUnder},
		{199, "5 6 #", ok}, {200, "5 6 #", thHold}, {200, "0 0 #", thHold}, {200, "5 #", thUnder}, {200, "1 0 ! 5 6 #", thBase}, {200, "1 0 ! 5 6 #s", thBase},
		{197, "123 0 #s", ok}, {198, "123 0 #s", thHold}, {199, "123 0 #s", thHold}, {200, "123 0 #s", thHold}, {199, "0 0 #s", ok}, {200, "0 0 #s", thHold}, {72, "2 0 ! -1 -1 #s", ok}, {73, "2 0 ! -1 -1 #s", thHold}, {200, "<# 65 hold", ok}, {200, "5 6 #>", ok},
	} {
		w := held(t, x.bytes)
		e := ok
		for _, word := range strings.Fields(x.text) {
			if c, known := cellOf(word); known {
				w.push(c)
				continue
			}
			found, _ := table.Find(word)
			before := slices.Clone(w.o.stack)
			if e = w.o.do(found.N); e != w.s.Do(found.N) || e != ok && !slices.Equal(w.s.Stack().All(), before) {
				t.Errorf("%d bytes, %s: %s is not %d", x.bytes, x.text, word, e)
			}
			w.same(x.text)
		}
		if e != x.e {
			t.Errorf("%d bytes, %s: %d, want %d", x.bytes, x.text, e, x.e)
		}
	}
	w := held(t, mostHold)
	w.push(1, 2)
	w.do(api.PmEnd)
	if l := w.s.Stack().All(); !slices.Equal(l, []api.Cell{568, 200}) {
		t.Errorf("PmEnd: %v", l)
	}
	w.do(api.PmType)
	if w.s.Out() != strings.Repeat("x", 200) {
		t.Errorf("the output is %q", w.s.Out())
	}
}

// TestP132Bases: P13.2, every base, and those that are none, for all that asks for it.
func TestP132Bases(t *testing.T) {
	w := newWatched(t, leastSize)
	for base := api.Cell(-1); base <= 40; base++ {
		for _, l := range [][]api.Cell{{0, 0}, {1, 0}, {-1, -1}, {35, 0}, {-36, -1}, {greatest, greatest}, {0, least}, {12345, 678}} {
			for _, op := range []int{api.PmDot, api.PmUDot, api.PmDDot, api.PmRDot, api.PmShow, api.PmDigit, api.PmDigits, api.PmEnd, api.PmType} {
				if len(w.o.out) > mostOut-300 {
					w = newWatched(t, leastSize)
				}
				w.set(8, append([]api.Cell{77}, l...)...)
				w.setBase(base)
				w.do(op)
				w.do(api.PmBegin)
			}
		}
	}
}

// TestP132Edges: P13.2, each operation of up to three cells on all edges, and each of four on pairs.
func TestP132Edges(t *testing.T) {
	w := newWatched(t, leastSize)
	check := func(op int, l ...api.Cell) {
		t.Helper()
		if len(w.o.out) > mostOut-1100 {
			w = newWatched(t, leastSize)
		}
		w.setBase(10)
		w.set(int(uint64(len(l)*7+op)%505), append([]api.Cell{5, 77}, l...)...)
		w.do(op)
		w.o.text = ""
		w.s.Do(api.PmBegin)
	}
	each(func(op, takes, pushes int) {
		switch takes {
		case 0:
			check(op)
		case 1:
			for _, a := range edges() {
				check(op, a)
			}
		case 2:
			for _, a := range edges() {
				for _, b := range edges() {
					check(op, a, b)
				}
			}
		case 3:
			for _, a := range someEdges() {
				for _, b := range someEdges() {
					for _, c := range someEdges() {
						check(op, a, b, c)
					}
				}
			}
		case 4:
			for _, a := range somePairs() {
				for _, b := range somePairs() {
					check(op, append(slices.Clone(a), b...)...)
				}
			}
		}
	})
}

// TestP132Addresses: P13.2, what goes to the memory at every address nearby, from every place that is here.
func TestP132Addresses(t *testing.T) {
	w := newWatched(t, leastSize)
	for at := api.Cell(-20); at < leastSize+20; at++ {
		for _, op := range []int{api.PmGet, api.PmPut, api.PmGetC, api.PmPutC, api.PmAddTo, api.PmGet2, api.PmPut2, api.PmCount, api.PmAligned} {
			w.setBase(10)
			w.set(8, 0x1122334455667788, -2, at)
			w.do(op)
		}
	}
	for here := range leastSize - spare + 1 {
		for _, op := range []int{api.PmHere, api.PmAllot, api.PmComma, api.PmCComma, api.PmAlign} {
			w.setBase(10)
			w.set(here, -2, api.Cell(here)-250)
			w.do(op)
			w.do(op)
		}
	}
}

// TestP133Below: P13.3, the cells below those that an operation takes remain, and those that it takes are gone.
func TestP133Below(t *testing.T) {
	below := make([]api.Cell, 50)
	for i := range below {
		below[i] = api.Cell(1000 + i*i)
	}
	check := func(op, takes, least, most int) {
		w := newWatched(t, leastSize)
		w.push(below...)
		w.push(operands(op)[:takes]...)
		if e := w.s.Do(op); e != ok {
			t.Fatalf("Do(%d) = %d", op, e)
		}
		l := w.s.Stack().All()
		if n := len(l) - len(below); n < least || n > most || !slices.Equal(l[:len(below)], below) {
			t.Errorf("Do(%d): %v", op, l)
		}
	}
	each(func(op, takes, pushes int) { check(op, takes, pushes, pushes) })
	for op, takes := range stackTakes() {
		check(op, takes, 0, 6)
	}
}

// TestNil: what each call answers of no state, whatever it is given.
func TestNil(t *testing.T) {
	var s *prim.State
	if s.Stack() != nil || s.Mem() != nil {
		t.Error("a nil state has a stack or a memory")
	}
	s.Say("abc")
	if s.Out() != "" {
		t.Errorf("Out() = %q", s.Out())
	}
	for _, text := range []string{"", "abc", strings.Repeat("x", 300)} {
		if at, n := s.Note(text); at != 0 || n != 0 {
			t.Errorf("Note(%q) = %d, %d", text, at, n)
		}
	}
	if base, e := s.Base(); base != 0 || e != errNone {
		t.Errorf("Base() = %d, %d", base, e)
	}
	for op := -5; op < api.PmLast+5; op++ {
		if e := s.Do(op); e != errNone {
			t.Errorf("Do(%d) = %d", op, e)
		}
	}
}

// TestUnmade: no call panics on a state that New did not make.
func TestUnmade(t *testing.T) {
	s := new(prim.State)
	for op := -5; op < api.PmLast+5; op++ {
		if e := s.Do(op); e == ok {
			t.Errorf("Do(%d) = %d", op, e)
		}
	}
	s.Say("abc")
	at, n := s.Note("abc")
	base, e := s.Base()
	if at != 0 || n != 0 || base != 0 || e == ok || s.Stack() != nil || s.Mem() != nil {
		t.Errorf("Note: %d, %d, Base: %d, %d, %v, %v", at, n, base, e, s.Stack(), s.Mem())
	}
}

// TestMixed: P13.1 to P13.3, long rows of all calls, always the same rows.
func TestMixed(t *testing.T) {
	source := rand.New(rand.NewSource(13))
	for _, size := range []int{leastSize, leastSize + 8, 2000} {
		for range 40 {
			w := newWatched(t, size)
			for range 400 {
				w.random(source)
			}
		}
	}
}

// random does one of the calls, mostly an operation; addresses of cells are frequent, so that much is stored and read.
func (w *watched) random(source *rand.Rand) {
	w.Helper()
	n := source.Intn(40)
	text := strings.Repeat("a\xffb", n)[:n]
	switch source.Intn(24) {
	case 0:
		w.s.Say(text)
		w.o.say(text)
		w.same("Say")
	case 1:
		w.s.Note(text)
		copy(w.o.bytes[len(w.o.bytes)-half:], text)
		w.same("Note")
	case 2:
		w.setBase(api.Cell(source.Intn(38)))
	case 3:
		w.s.Stack().Cut(n)
		w.o.stack = append(w.o.stack, make([]api.Cell, mostDeep)...)[:n]
	case 4, 5, 6, 7, 8, 9, 10, 11:
		if len(w.o.stack) < mostDeep {
			w.push(randomCell(source, len(w.o.bytes)))
		}
	default:
		w.do(1 + source.Intn(api.PmLast))
	}
}

func randomCell(source *rand.Rand, size int) api.Cell {
	switch source.Intn(5) {
	case 0:
		return edges()[source.Intn(len(edges()))]
	case 1:
		return api.Cell(source.Intn(size/width)) * width
	case 2:
		return api.Cell(source.Intn(20)) - 5
	case 3:
		return api.Cell(source.Uint64())
	}
	return api.Cell(source.Intn(size))
}
