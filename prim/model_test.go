package prim_test

import (
	"encoding/binary"
	"fmt"
	"math"
	"math/big"
	"slices"
	"strconv"
	"strings"
	"testing"

	"rhyton/api"
	"rhyton/cell"
	"rhyton/prim"
	"rhyton/real"
	"rhyton/stack"
)

// The errors and limits are written as numbers: a wrong name in the package cannot hide behind the same name here.
const (
	ok      = api.Errno(0)
	errArg  = api.Errno(1)
	errNone = api.Errno(2)
	thOver  = api.Errno(-3)
	thUnder = api.Errno(-4)
	thRoom  = api.Errno(-8)
	thMem   = api.Errno(-9)
	thZero  = api.Errno(-10)
	thRange = api.Errno(-11)
	thHold  = api.Errno(-17)
	thAlign = api.Errno(-23)
	thBase  = api.Errno(-40)
	thReal  = api.Errno(-43)

	width     = 8
	leastSize = 1024
	mostSize  = 65536
	spare     = 512
	half      = 256 // bytes for the last text, and before them for the last number as text
	mostDeep  = 128
	mostOut   = 4000
	mostHold  = 200

	least    = api.Cell(math.MinInt64)
	greatest = api.Cell(math.MaxInt64)
)

// model is a state as the chapter describes it. Its numbers are exact ones.
type model struct {
	stack []api.Cell
	bytes []byte
	here  int
	out   string
	text  string // the conversion text
}

// do executes an operation. An error is a panic of it, and leaves all as it was.
func (o *model) do(op int) (e api.Errno) {
	before := *o
	before.stack, before.bytes = slices.Clone(o.stack), slices.Clone(o.bytes)
	defer func() {
		if thrown := recover(); thrown != nil {
			*o, e = before, thrown.(api.Errno)
		}
	}()
	switch {
	case op < api.PmNegate || op > api.PmEnd:
		panic(errArg)
	case op <= api.PmMax:
		o.doCell(op)
	case op <= api.PmDepth:
		o.doStack(op)
	case op <= api.PmDivMod:
		o.doPair(op)
	case op <= api.PmFromReal:
		o.doReal(op)
	case op <= api.PmCount:
		o.doMemory(op)
	case op <= api.PmShow:
		o.doOutput(op)
	default:
		o.doText(op)
	}
	if len(o.stack) > mostDeep {
		panic(thOver)
	}
	return ok
}

// need throws an error unless what it is told holds.
func need(holds bool, e api.Errno) {
	if !holds {
		panic(e)
	}
}

// take takes cells, the top one last.
func (o *model) take(n int) []api.Cell {
	need(len(o.stack) >= n, thUnder)
	l := slices.Clone(o.stack[len(o.stack)-n:])
	o.stack = o.stack[:len(o.stack)-n]
	return l
}

func (o *model) push(l ...api.Cell) { o.stack = append(o.stack, l...) }

// power is 2 to the power n.
func power(n uint) *big.Int { return new(big.Int).Lsh(big.NewInt(1), n) }

// unsigned is a cell as an unsigned number.
func unsigned(c api.Cell) *big.Int { return new(big.Int).SetUint64(uint64(c)) }

func signed(c api.Cell) *big.Int { return big.NewInt(int64(c)) }

// wide is the signed number of a pair, its low cell first.
func wide(l []api.Cell) *big.Int {
	n := new(big.Int).Lsh(signed(l[1]), 64)
	return n.Add(n, unsigned(l[0]))
}

// uwide is the unsigned one.
func uwide(l []api.Cell) *big.Int { return modulo(wide(l), 128) }

// modulo is a number modulo 2 to the power n.
func modulo(n *big.Int, bits uint) *big.Int { return new(big.Int).Mod(n, power(bits)) }

func (o *model) pushCell(n *big.Int) { o.push(api.Cell(modulo(n, 64).Uint64())) }

func (o *model) pushPair(n *big.Int) {
	o.pushCell(n)
	o.pushCell(new(big.Int).Rsh(n, 64))
}

func (o *model) pushTruth(is bool) {
	if is {
		o.push(-1)
	} else {
		o.push(0)
	}
}

// doCell and doStack know from the layers below what their operations do.
func (o *model) doCell(op int) {
	var x api.Cell
	var e api.Errno
	if op <= api.PmNonZero {
		x, e = cell.One(op, o.take(1)[0])
	} else {
		l := o.take(2)
		x, e = cell.Two(op, l[0], l[1])
	}
	need(e == ok, e)
	o.push(x)
}

func (o *model) doStack(op int) {
	s := stack.New()
	s.Put(o.stack...)
	e := s.Do(op)
	need(e == ok, e)
	o.stack = s.All()
}

func (o *model) doPair(op int) {
	switch op {
	case api.PmWide:
		o.pushPair(signed(o.take(1)[0]))
	case api.PmAdd2, api.PmSub2, api.PmLess2, api.PmULess2, api.PmEqual2:
		o.doTwoPairs(op, o.take(4))
	case api.PmNeg2:
		o.pushPair(new(big.Int).Neg(wide(o.take(2))))
	case api.PmAbs2:
		o.pushPair(new(big.Int).Abs(wide(o.take(2))))
	case api.PmTwice2:
		o.pushPair(new(big.Int).Lsh(wide(o.take(2)), 1))
	case api.PmHalf2:
		o.pushPair(new(big.Int).Rsh(wide(o.take(2)), 1))
	case api.PmMulW:
		l := o.take(2)
		o.pushPair(new(big.Int).Mul(signed(l[0]), signed(l[1])))
	case api.PmUMulW:
		l := o.take(2)
		o.pushPair(new(big.Int).Mul(unsigned(l[0]), unsigned(l[1])))
	default:
		o.doDivision(op)
	}
}

func (o *model) doTwoPairs(op int, l []api.Cell) {
	a, b := wide(l[:2]), wide(l[2:])
	switch op {
	case api.PmAdd2:
		o.pushPair(new(big.Int).Add(a, b))
	case api.PmSub2:
		o.pushPair(new(big.Int).Sub(a, b))
	case api.PmLess2:
		o.pushTruth(a.Cmp(b) < 0)
	case api.PmULess2:
		o.pushTruth(uwide(l[:2]).Cmp(uwide(l[2:])) < 0)
	case api.PmEqual2:
		o.pushTruth(a.Cmp(b) == 0)
	}
}

// floored is the quotient rounded down, and the remainder; truncated rounds towards 0.
func floored(a, n *big.Int) (q, r *big.Int) {
	q, r = truncated(a, n)
	if r.Sign() != 0 && r.Sign() != n.Sign() {
		q.Sub(q, big.NewInt(1))
		r.Add(r, n)
	}
	return q, r
}

func truncated(a, n *big.Int) (q, r *big.Int) { return new(big.Int).QuoRem(a, n, new(big.Int)) }

func (o *model) doDivision(op int) {
	takes := 3
	if op == api.PmDivMod {
		takes = 2
	}
	l := o.take(takes)
	last := l[takes-1]
	need(last != 0, thZero)
	divide, a, n := floored, wide(l[:2]), signed(last)
	low, above := new(big.Int).Neg(power(63)), power(63)
	switch op {
	case api.PmUDivW:
		a, n, low, above = uwide(l[:2]), unsigned(last), new(big.Int), power(64)
	case api.PmTruncW:
		divide = truncated
	case api.PmScale, api.PmScaleMod:
		a = new(big.Int).Mul(signed(l[0]), signed(l[1]))
	case api.PmDivMod:
		a, above = signed(l[0]), power(64) // the one quotient that is no cell wraps around
	}
	q, r := divide(a, n)
	need(q.Cmp(low) >= 0 && q.Cmp(above) < 0, thRange)
	if op != api.PmScale {
		o.pushCell(r)
	}
	o.pushCell(q)
}

func (o *model) doReal(op int) {
	switch op {
	case api.PmToReal:
		o.push(api.Cell(math.Float64bits(float64(o.take(1)[0]))))
		return
	case api.PmFromReal:
		x := math.Trunc(math.Float64frombits(uint64(o.take(1)[0])))
		need(x >= -1<<63 && x < 1<<63, thReal)
		o.push(api.Cell(x))
		return
	}
	names := map[int]int{api.PmRNeg: api.RlNeg, api.PmRAbs: api.RlAbs, api.PmRAdd: api.RlAdd, api.PmRSub: api.RlSub, api.PmRMul: api.RlMul, api.PmRDiv: api.RlDiv, api.PmRMin: api.RlMin, api.PmRMax: api.RlMax, api.PmRLess: api.RlLess, api.PmREqual: api.RlEqual}
	var x api.Cell
	if op == api.PmRNeg || op == api.PmRAbs {
		x, _ = real.One(names[op], o.take(1)[0])
	} else {
		l := o.take(2)
		x, _ = real.Two(names[op], l[0], l[1])
	}
	o.push(x)
}

// part is the n bytes from an address on.
func (o *model) part(at, n api.Cell) []byte {
	need(at >= 0 && n >= 0 && uint64(at)+uint64(n) <= uint64(len(o.bytes)), thMem)
	return o.bytes[at : at+n]
}

func (o *model) cellAt(at api.Cell) []byte {
	l := o.part(at, width)
	need(at%width == 0, thAlign)
	return l
}

func (o *model) get(at api.Cell) api.Cell { return api.Cell(binary.LittleEndian.Uint64(o.cellAt(at))) }

func (o *model) put(at, x api.Cell) { binary.LittleEndian.PutUint64(o.cellAt(at), uint64(x)) }

func (o *model) allot(n *big.Int) {
	to := new(big.Int).Add(big.NewInt(int64(o.here)), n)
	need(to.Sign() >= 0 && to.Cmp(big.NewInt(int64(len(o.bytes)-spare))) <= 0, thRoom)
	o.here = int(to.Int64())
}

func (o *model) doMemory(op int) {
	switch op {
	case api.PmGet:
		o.push(o.get(o.take(1)[0]))
	case api.PmPut:
		l := o.take(2)
		o.put(l[1], l[0])
	case api.PmGetC:
		o.push(api.Cell(o.part(o.take(1)[0], 1)[0]))
	case api.PmPutC:
		l := o.take(2)
		o.part(l[1], 1)[0] = byte(l[0])
	case api.PmAddTo:
		l := o.take(2)
		o.put(l[1], o.get(l[1])+l[0])
	case api.PmGet2:
		a := o.take(1)[0]
		o.push(o.get(a + 8))
		o.push(o.get(a))
	case api.PmPut2:
		l := o.take(3)
		o.put(l[2], l[1])
		o.put(l[2]+8, l[0])
	case api.PmFill:
		l := o.take(3)
		for i := range o.part(l[0], l[1]) {
			o.bytes[int(l[0])+i] = byte(l[2])
		}
	case api.PmMove:
		l := o.take(3)
		from := slices.Clone(o.part(l[0], l[2]))
		copy(o.part(l[1], l[2]), from)
	default:
		o.doAllot(op)
	}
}

func (o *model) doAllot(op int) {
	switch op {
	case api.PmHere:
		o.push(api.Cell(o.here))
	case api.PmAllot:
		o.allot(signed(o.take(1)[0]))
	case api.PmComma:
		x := o.take(1)[0]
		need(o.here%width == 0, thAlign)
		o.allot(big.NewInt(width))
		o.put(api.Cell(o.here-width), x)
	case api.PmCComma:
		c := o.take(1)[0]
		o.allot(big.NewInt(1))
		o.bytes[o.here-1] = byte(c)
	case api.PmAlign:
		for o.here%width != 0 {
			o.allot(big.NewInt(1))
		}
	case api.PmAligned:
		a := o.take(1)[0]
		for a%width != 0 {
			a++
		}
		o.push(a)
	case api.PmBytes:
		o.pushCell(new(big.Int).Lsh(signed(o.take(1)[0]), 3))
	case api.PmCount:
		a := o.take(1)[0]
		o.push(a+1, api.Cell(o.part(a, 1)[0]))
	}
}

func (o *model) base() int {
	x := o.get(0)
	need(x >= 2 && x <= 36, thBase)
	return int(x)
}

func (o *model) say(t string) { o.out = (o.out + t)[:min(mostOut, len(o.out)+len(t))] }

func inBase(n *big.Int, base int) string { return strings.ToUpper(n.Text(base)) }

func (o *model) doOutput(op int) {
	switch op {
	case api.PmEmit:
		o.say(string([]byte{byte(o.take(1)[0])}))
	case api.PmDot:
		n := o.take(1)[0]
		o.say(inBase(signed(n), o.base()) + " ")
	case api.PmUDot:
		n := o.take(1)[0]
		o.say(inBase(unsigned(n), o.base()) + " ")
	case api.PmDDot:
		l := o.take(2)
		o.say(inBase(wide(l), o.base()) + " ")
	case api.PmRDot:
		o.say(real.Text(o.take(1)[0]) + " ")
	case api.PmCr:
		o.say("\n")
	case api.PmSpace:
		o.say(" ")
	case api.PmSpaces:
		for n := o.take(1)[0]; n > 0 && len(o.out) < mostOut; n-- {
			o.say(" ")
		}
	case api.PmType:
		l := o.take(2)
		o.say(string(o.part(l[0], l[1])))
	case api.PmShow:
		base := o.base()
		o.say(fmt.Sprintf("<%d> ", len(o.stack)))
		for _, x := range o.stack {
			o.say(inBase(signed(x), base) + " ")
		}
	}
}

func (o *model) hold(c byte) {
	need(len(o.text) < mostHold, thHold)
	o.text = string([]byte{c}) + o.text
}

// digit prepends the last digit: what is left.
func (o *model) digit(n *big.Int) *big.Int {
	base := o.base()
	t := inBase(n, base)
	o.hold(t[len(t)-1])
	return new(big.Int).Quo(n, big.NewInt(int64(base)))
}

func (o *model) doText(op int) {
	switch op {
	case api.PmDecimal:
		o.put(0, 10)
	case api.PmHex:
		o.put(0, 16)
	case api.PmBegin:
		o.text = ""
	case api.PmDigit:
		o.pushPair(o.digit(uwide(o.take(2))))
	case api.PmDigits:
		n := o.digit(uwide(o.take(2)))
		for n.Sign() != 0 {
			n = o.digit(n)
		}
		o.push(0, 0)
	case api.PmHold:
		o.hold(byte(o.take(1)[0]))
	case api.PmSign:
		if o.take(1)[0] < 0 {
			o.hold('-')
		}
	case api.PmEnd:
		o.take(2)
		at := len(o.bytes) - half - len(o.text)
		copy(o.bytes[at:], o.text)
		o.push(api.Cell(at), api.Cell(len(o.text)))
	}
}

// watched is a state and its model: what is done to it is done to both, and both are held against each other.
type watched struct {
	*testing.T
	s *prim.State
	o *model
}

// newModel is a new state as the chapter describes it.
func newModel(size int) *model {
	o := &model{bytes: make([]byte, size), here: 8}
	o.bytes[0] = 10
	return o
}

func newWatched(t *testing.T, size int) *watched {
	t.Helper()
	s, e := prim.New(size)
	if s == nil || e != ok {
		t.Fatalf("New(%d) = %v, %d", size, s, e)
	}
	return &watched{t, s, newModel(size)}
}

// set makes the stack, all bytes but the base, and here what they are told.
func (w *watched) set(here int, l ...api.Cell) {
	w.Helper()
	for at := width; at < len(w.o.bytes); at++ {
		w.o.bytes[at] = byte(at*7 + at>>8*13 + 1)
	}
	w.o.here, w.o.stack = here, slices.Clone(l)
	w.s.Stack().Cut(0)
	for _, e := range []api.Errno{w.s.Stack().Put(l...), w.s.Mem().Write(0, string(w.o.bytes)), w.s.Mem().Allot(api.Cell(here) - w.s.Mem().Here())} {
		if e != ok {
			w.Fatalf("set(%d, %v): %d", here, l, e)
		}
	}
}

// setBase makes the cell at address 0 what it is told.
func (w *watched) setBase(x api.Cell) {
	w.o.put(0, x)
	w.s.Mem().Put(0, x)
}

func (w *watched) push(l ...api.Cell) {
	w.Helper()
	w.o.push(l...)
	if e := w.s.Stack().Put(l...); e != ok {
		w.Fatalf("Put(%v) = %d", l, e)
	}
}

func (w *watched) do(op int) {
	w.Helper()
	before := slices.Clone(w.o.stack)
	want := w.o.do(op)
	if got := w.s.Do(op); got != want {
		w.Fatalf("Do(%d) of %v = %d, want %d", op, before, got, want)
	}
	w.same("Do(" + strconv.Itoa(op) + ") of " + fmt.Sprint(before))
}

// same holds all that can be observed against the model, the conversion text too.
func (w *watched) same(after string) {
	w.Helper()
	l, out, here := w.s.Stack().All(), w.s.Out(), w.s.Mem().Here()
	if !slices.Equal(l, w.o.stack) {
		w.Fatalf("%s: the stack is %v, want %v", after, l, w.o.stack)
	}
	if out != w.o.out {
		w.Fatalf("%s: the output is %q, want %q", after, out, w.o.out)
	}
	if here != api.Cell(w.o.here) {
		w.Fatalf("%s: here is %d, want %d", after, here, w.o.here)
	}
	w.sameBytes(after)
	if text := conversion(w.s); text != w.o.text {
		w.Fatalf("%s: the conversion text is %q, want %q", after, text, w.o.text)
	}
}

func (w *watched) sameBytes(after string) {
	w.Helper()
	bytes, e := w.s.Mem().Text(0, api.Cell(len(w.o.bytes)))
	if bytes == string(w.o.bytes) && e == ok && w.s.Mem().Size() == len(w.o.bytes) {
		return
	}
	for at := range min(len(bytes), len(w.o.bytes)) {
		if bytes[at] != w.o.bytes[at] {
			w.Fatalf("%s: the byte at %d is %d, want %d", after, at, bytes[at], w.o.bytes[at])
		}
	}
	w.Fatalf("%s: there are %d bytes, want %d", after, len(bytes), len(w.o.bytes))
}

// conversion is the conversion text, as PmEnd writes it; stack and memory are what they were then.
func conversion(s *prim.State) string {
	cells := s.Stack().All()
	bytes, _ := s.Mem().Text(0, api.Cell(s.Mem().Size()))
	s.Stack().Cut(0)
	s.Stack().Put(0, 0)
	e := s.Do(api.PmEnd)
	l, _ := s.Stack().Take(2)
	if e != ok || len(l) != 2 {
		return fmt.Sprintf("PmEnd: %d, %v", e, l)
	}
	text, e := s.Mem().Text(l[0], l[1])
	if e != ok {
		return fmt.Sprintf("Text of PmEnd: %d", e)
	}
	s.Stack().Put(cells...)
	s.Mem().Write(0, bytes)
	return text
}
