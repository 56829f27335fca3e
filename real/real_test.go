package real_test

import (
	"math"
	"math/big"
	"math/rand"
	"regexp"
	"strconv"
	"strings"
	"testing"

	"rhyton/api"
	"rhyton/real"
)

// The numbers of the operations, the error and the cells are written as numbers: a wrong name in the package cannot hide behind the same name here.
const (
	low   = api.Cell(math.MinInt64) // the sign alone: a zero with a sign
	inf   = api.Cell(0x7FF0000000000000)
	nan   = api.Cell(0x7FF8000000000000)
	one   = api.Cell(0x3FF0000000000000)
	two   = api.Cell(0x4000000000000000)
	three = api.Cell(0x4008000000000000)
	half  = api.Cell(0x3FE0000000000000)
	tenth = api.Cell(0x3FB999999999999A)
	least = api.Cell(1)                  // the least one above 0
	tiny  = api.Cell(0x0010000000000000) // the least one with all its bits
	huge  = api.Cell(0x7FEFFFFFFFFFFFFF) // the greatest finite one
	whole = api.Cell(0x43E0000000000000) // 2^63

	neg, abs                                 = 1, 2
	add, sub, mul, div, lesser, more, lt, eq = 3, 4, 5, 6, 7, 8, 9, 10
	thReal                                   = api.Errno(-43)
	errArg                                   = api.Errno(1)
)

// nans are cells that are not a number: with a sign and without, with any bits.
func nans() []api.Cell {
	return []api.Cell{nan, inf + 1, inf + 2, nan - 1, nan + 1, math.MaxInt64, low | inf + 1, low | nan, low | nan + 1, -1}
}

// sizes are the numbers without a sign at which the size of the bits, the rounding and the range of cells change, and an infinity.
func sizes() []api.Cell {
	l := []api.Cell{
		0, least, 2, 3, 4, 5, 1 << 51, tiny - 2, tiny - 1, tiny, tiny + 1, tiny + 2, 2 * tiny, 2*tiny + 1, 3 * tiny, 54 * tiny,
		tenth, half - 1, half, half + 1, 0x3FE8000000000000, one - 2, one - 1, one, one + 1, one + 2, one + 3, 0x3FF8000000000000, two - 1, two, two + 1, three, 0x4024000000000000,
		0x4320000000000000, 0x4320000000000001, 0x4330000000000000, 0x4330000000000001, 0x4340000000000000 - 1, 0x4340000000000000, 0x4340000000000001,
		whole - 0x0010000000000000, whole - 1, whole, whole + 1, whole + 0x0010000000000000, huge - 1, huge, huge - 0x0010000000000000, inf,
	}
	for _, power := range []api.Cell{-1023 + 1, -538, -537, -512, -511, -54, -53, -52, 52, 53, 54, 511, 512, 970, 971, 1022, 1023} {
		l = append(l, (power+1023)<<52)
	}
	return l
}

// edges are the sizes with a sign and without.
func edges() []api.Cell {
	var l []api.Cell
	for _, f := range sizes() {
		l = append(l, f, low|f)
	}
	return l
}

// some are cells without an order, always the same ones: about half of them at random, half of them with an exponent near that of 1.
func some(n int) []api.Cell {
	source := rand.New(rand.NewSource(4))
	var l []api.Cell
	for range n {
		bits := source.Uint64()
		if bits&1 == 0 {
			bits = bits&^(0x7FF<<52) | uint64(1023-60+source.Intn(120))<<52
		}
		l = append(l, api.Cell(bits))
	}
	return l
}

func isNaN(f api.Cell) bool  { return f&^low > inf }
func isInf(f api.Cell) bool  { return f&^low == inf }
func isZero(f api.Cell) bool { return f&^low == 0 }

func power(n int) *big.Rat {
	size := new(big.Int).Lsh(big.NewInt(1), uint(max(n, -n)))
	if n < 0 {
		return new(big.Rat).SetFrac(big.NewInt(1), size)
	}
	return new(big.Rat).SetInt(size)
}

// exact is the number that the bits of a finite one stand for.
func exact(f api.Cell) *big.Rat {
	exponent, fraction := int(uint64(f)>>52&0x7FF), int64(f&(1<<52-1))
	if exponent == 0 {
		exponent = 1
	} else {
		fraction |= 1 << 52
	}
	x := new(big.Rat).SetInt64(fraction)
	x.Mul(x, power(exponent-1075))
	if f < 0 {
		x.Neg(x)
	}
	return x
}

// rounded is the nearest number, with that sign where it is a zero.
func rounded(x *big.Rat, sign api.Cell) api.Cell {
	f, _ := x.Float64()
	if f == 0 {
		return sign
	}
	return api.Cell(math.Float64bits(f))
}

func exactSum(a, b api.Cell) api.Cell {
	switch {
	case isInf(a) && isInf(b) && a != b:
		return nan
	case isInf(a):
		return a
	case isInf(b):
		return b
	case a == low && b == low:
		return low
	}
	return rounded(new(big.Rat).Add(exact(a), exact(b)), 0)
}

func exactProduct(a, b api.Cell) api.Cell {
	sign := (a ^ b) & low
	switch {
	case isInf(a) && isZero(b) || isZero(a) && isInf(b):
		return nan
	case isInf(a) || isInf(b):
		return sign | inf
	}
	return rounded(new(big.Rat).Mul(exact(a), exact(b)), sign)
}

func exactQuotient(a, b api.Cell) api.Cell {
	sign := (a ^ b) & low
	switch {
	case isInf(a) && isInf(b) || isZero(a) && isZero(b):
		return nan
	case isInf(a) || isZero(b):
		return sign | inf
	case isInf(b):
		return sign
	}
	return rounded(new(big.Rat).Quo(exact(a), exact(b)), sign)
}

// order is a number's place among all, where a zero with a sign is less than a zero without one.
func order(f api.Cell) api.Cell {
	if f < 0 {
		return -(f &^ low) - 1
	}
	return f
}

func truth(is bool) api.Cell {
	if is {
		return -1
	}
	return 0
}

// exactTwo is the chapter's result of an operation on two.
func exactTwo(op int, a, b api.Cell) api.Cell {
	if isNaN(a) || isNaN(b) {
		if op == lt || op == eq {
			return 0
		}
		return nan
	}
	switch op {
	case add:
		return exactSum(a, b)
	case sub:
		return exactSum(a, b^low)
	case mul:
		return exactProduct(a, b)
	case div:
		return exactQuotient(a, b)
	case lesser:
		if order(a) < order(b) {
			return a
		}
		return b
	case more:
		if order(a) > order(b) {
			return a
		}
		return b
	case lt:
		return truth(order(a) < order(b) && !(isZero(a) && isZero(b)))
	}
	return truth(a == b || isZero(a) && isZero(b))
}

func checkOf(t *testing.T, n, want api.Cell) {
	t.Helper()
	if got := real.Of(n); got != want {
		t.Errorf("Of(%d) = %#x, want %#x", n, uint64(got), uint64(want))
	}
}

// TestP41Of: P4.1, plain cases written by hand, and ties.
func TestP41Of(t *testing.T) {
	for _, x := range []struct{ n, want api.Cell }{
		{0, 0}, {1, one}, {-1, low | one}, {2, two}, {3, three}, {-3, low | three}, {10, 0x4024000000000000},
		{1<<53 - 1, 0x433FFFFFFFFFFFFF}, {1 << 53, 0x4340000000000000}, {1<<53 + 1, 0x4340000000000000}, {1<<53 + 2, 0x4340000000000001}, {1<<53 + 3, 0x4340000000000002}, {1<<53 + 4, 0x4340000000000002},
		{-1<<53 - 1, low | 0x4340000000000000}, {-1<<53 - 3, low | 0x4340000000000002},
		{1<<54 + 2, 0x4350000000000000}, {1<<54 + 3, 0x4350000000000001}, {1<<54 + 6, 0x4350000000000002},
		{math.MaxInt64, whole}, {math.MaxInt64 - 511, whole}, {math.MaxInt64 - 512, whole - 1}, {math.MinInt64, low | whole}, {math.MinInt64 + 512, low | whole}, {math.MinInt64 + 513, low | whole - 1},
	} {
		checkOf(t, x.n, x.want)
	}
}

// TestP41OfEdges: P4.1, the cells around each power of 2 and around the ties there, held against exact numbers.
func TestP41OfEdges(t *testing.T) {
	for p := range 64 {
		for q := range 64 {
			for by := api.Cell(-3); by <= 3; by++ {
				for _, n := range []api.Cell{1<<p + 1<<q + by, -(1<<p + 1<<q + by), 1<<p - 1<<q + by} {
					checkOf(t, n, rounded(new(big.Rat).SetInt64(int64(n)), 0))
				}
			}
		}
	}
	for _, n := range some(1000) {
		checkOf(t, n, rounded(new(big.Rat).SetInt64(int64(n)), 0))
	}
}

func checkTo(t *testing.T, f, want api.Cell, e api.Errno) {
	t.Helper()
	if got, is := real.To(f); got != want || is != e {
		t.Errorf("To(%#x) = %d, %d, want %d, %d", uint64(f), got, is, want, e)
	}
}

// TestP41To: P4.1, plain cases written by hand, and the ends of the cells.
func TestP41To(t *testing.T) {
	for _, x := range []struct{ f, want api.Cell }{
		{0, 0}, {low, 0}, {one, 1}, {low | one, -1}, {three, 3}, {low | three, -3}, {half, 0}, {low | half, 0}, {one - 1, 0}, {low | one - 1, 0},
		{0x4004000000000000, 2}, {low | 0x4004000000000000, -2}, {three - 1, 2}, {low | three - 1, -2}, {0x401C000000000000, 7}, {low | 0x401E000000000000, -7}, {tenth, 0},
		{least, 0}, {low | least, 0}, {tiny, 0}, {0x4340000000000001, 1<<53 + 2}, {whole - 1, math.MaxInt64 - 1023}, {low | whole - 1, math.MinInt64 + 1024}, {low | whole, math.MinInt64},
	} {
		checkTo(t, x.f, x.want, 0)
	}
	for _, f := range []api.Cell{whole, whole + 1, low | whole + 1, 0x4400000000000000, huge, low | huge, inf, low | inf} {
		checkTo(t, f, 0, thReal)
	}
	for _, f := range nans() {
		checkTo(t, f, 0, thReal)
	}
}

// TestP41ToEdges: P4.1, held against exact numbers.
func TestP41ToEdges(t *testing.T) {
	for _, f := range append(edges(), some(3000)...) {
		if isInf(f) || isNaN(f) {
			checkTo(t, f, 0, thReal)
			continue
		}
		n := new(big.Int).Quo(exact(f).Num(), exact(f).Denom())
		if n.IsInt64() {
			checkTo(t, f, api.Cell(n.Int64()), 0)
		} else {
			checkTo(t, f, 0, thReal)
		}
	}
}

func checkOne(t *testing.T, op int, a, want api.Cell, e api.Errno) {
	t.Helper()
	if got, is := real.One(op, a); got != want || is != e {
		t.Errorf("One(%d, %#x) = %#x, %d, want %#x, %d", op, uint64(a), uint64(got), is, uint64(want), e)
	}
}

// TestP42One: P4.2, both operations on every edge, and on what is not a number.
func TestP42One(t *testing.T) {
	checkOne(t, neg, 0, low, 0)
	checkOne(t, neg, low, 0, 0)
	checkOne(t, neg, three, low|three, 0)
	checkOne(t, abs, low|three, three, 0)
	checkOne(t, abs, low, 0, 0)
	for _, f := range sizes() {
		checkOne(t, neg, f, low|f, 0)
		checkOne(t, neg, low|f, f, 0)
		checkOne(t, abs, f, f, 0)
		checkOne(t, abs, low|f, f, 0)
	}
	for _, f := range nans() {
		checkOne(t, neg, f, nan, 0)
		checkOne(t, abs, f, nan, 0)
	}
}

// wrongNumbers are numbers of no operation on real ones at all.
func wrongNumbers() []int {
	return []int{math.MinInt, math.MinInt32, -256, -3, -2, -1, 0, 11, 12, 27, api.PmRNeg, api.PmRAdd, 256 + neg, 256 + add, 1<<32 + neg, 1<<32 + add, math.MaxInt32, math.MaxInt}
}

// TestP42Wrong: P4.2, an operation that is of two or of none.
func TestP42Wrong(t *testing.T) {
	for _, op := range append(wrongNumbers(), add, sub, mul, div, lesser, more, lt, eq) {
		for _, f := range []api.Cell{0, low, one, inf, nan, -1} {
			checkOne(t, op, f, 0, errArg)
		}
	}
}

func checkTwo(t *testing.T, op int, a, b, want api.Cell, e api.Errno) {
	t.Helper()
	if got, is := real.Two(op, a, b); got != want || is != e {
		t.Errorf("Two(%d, %#x, %#x) = %#x, %d, want %#x, %d", op, uint64(a), uint64(b), uint64(got), is, uint64(want), e)
	}
}

type twoCase struct {
	op         int
	a, b, want api.Cell
}

// TestP43Sums: P4.3, plain cases written by hand: ties, zeros, infinities, what is too great.
func TestP43Sums(t *testing.T) {
	for _, x := range []twoCase{
		{add, one, two, three}, {add, one, low | one, 0}, {add, low | one, one, 0}, {add, tenth, tenth, tenth + 0x0010000000000000},
		{add, 0, 0, 0}, {add, 0, low, 0}, {add, low, 0, 0}, {add, low, low, low},
		{add, one, 0x3CA0000000000000, one}, {add, one + 1, 0x3CA0000000000000, one + 2}, {add, one, 0x3CA0000000000001, one + 1},
		{add, least, least, 2}, {add, tiny, low | least, tiny - 1}, {add, tiny - 1, least, tiny},
		{add, huge, huge, inf}, {add, huge, 0x7C90000000000000, inf}, {add, huge, 0x7C90000000000000 - 1, huge}, {add, huge, one, huge}, {add, low | huge, low | huge, low | inf},
		{add, inf, one, inf}, {add, low | inf, huge, low | inf}, {add, inf, inf, inf}, {add, inf, low | inf, nan}, {add, low | inf, inf, nan},
		{sub, three, two, one}, {sub, two, three, low | one}, {sub, three, three, 0}, {sub, low | three, low | three, 0}, {sub, 0, 0, 0}, {sub, low, low, 0}, {sub, 0, low, 0}, {sub, low, 0, low},
		{sub, tiny, tiny - 1, least}, {sub, inf, inf, nan}, {sub, low | inf, low | inf, nan}, {sub, inf, low | inf, inf}, {sub, one, inf, low | inf}, {sub, huge, low | huge, inf},
	} {
		checkTwo(t, x.op, x.a, x.b, x.want, 0)
	}
}

// TestP43Products: P4.3, plain cases written by hand: signs, zeros, infinities, what is too great or too small.
func TestP43Products(t *testing.T) {
	for _, x := range []twoCase{
		{mul, two, three, 0x4018000000000000}, {mul, low | two, three, low | 0x4018000000000000}, {mul, low | two, low | three, 0x4018000000000000}, {mul, tenth, three, 0x3FD3333333333334},
		{mul, 0, three, 0}, {mul, low | three, 0, low}, {mul, low, low, 0}, {mul, 0, low, low}, {mul, inf, low | one, low | inf}, {mul, inf, 0, nan}, {mul, low, inf, nan}, {mul, low | inf, low | inf, inf},
		{mul, huge, two, inf}, {mul, low | huge, two, low | inf}, {mul, least, half, 0}, {mul, low | least, half, low}, {mul, 3, half, 2}, {mul, least, 0x3FE0000000000001, least}, {mul, huge, one, huge},
		{div, one, two, half}, {div, one, three, 0x3FD5555555555555}, {div, low | one, three, low | 0x3FD5555555555555}, {div, one, 0x4024000000000000, tenth},
		{div, one, 0, inf}, {div, one, low, low | inf}, {div, low | one, 0, low | inf}, {div, inf, 0, inf}, {div, inf, low, low | inf}, {div, 0, 0, nan}, {div, low, 0, nan}, {div, 0, low | three, low}, {div, low, low | three, 0},
		{div, inf, inf, nan}, {div, inf, low | inf, nan}, {div, three, inf, 0}, {div, three, low | inf, low}, {div, inf, low | three, low | inf},
		{div, huge, half, inf}, {div, least, two, 0}, {div, 3, two, 2}, {div, low | least, two, low}, {div, huge, huge, one}, {div, least, least, one}, {div, tiny, two, tiny / 2},
	} {
		checkTwo(t, x.op, x.a, x.b, x.want, 0)
	}
}

// TestP43Order: P4.3, plain cases written by hand.
func TestP43Order(t *testing.T) {
	for _, x := range []twoCase{
		{lesser, one, two, one}, {lesser, two, one, one}, {lesser, low | one, low | two, low | two}, {lesser, low | one, one, low | one}, {lesser, 0, low, low}, {lesser, low, 0, low}, {lesser, 0, 0, 0}, {lesser, inf, one, one}, {lesser, low | inf, low | huge, low | inf},
		{more, one, two, two}, {more, two, one, two}, {more, low | one, low | two, low | one}, {more, low | one, one, one}, {more, 0, low, 0}, {more, low, 0, 0}, {more, low, low, low}, {more, inf, one, inf}, {more, low | inf, low | huge, low | huge},
		{lt, one, two, -1}, {lt, two, one, 0}, {lt, one, one, 0}, {lt, low | two, low | one, -1}, {lt, low | one, low | two, 0}, {lt, low, 0, 0}, {lt, 0, low, 0}, {lt, low | least, low, -1}, {lt, 0, least, -1}, {lt, low | inf, inf, -1}, {lt, inf, inf, 0}, {lt, huge, inf, -1},
		{eq, one, one, -1}, {eq, one, one + 1, 0}, {eq, one, low | one, 0}, {eq, 0, low, -1}, {eq, low, 0, -1}, {eq, 0, least, 0}, {eq, inf, inf, -1}, {eq, inf, low | inf, 0}, {eq, inf, huge, 0},
	} {
		checkTwo(t, x.op, x.a, x.b, x.want, 0)
	}
}

// TestP43None: P4.3, an operand is not a number, whatever its bits are; or both are.
func TestP43None(t *testing.T) {
	for op := add; op <= eq; op++ {
		want := nan
		if op == lt || op == eq {
			want = 0
		}
		for _, a := range nans() {
			for _, b := range edges() {
				checkTwo(t, op, a, b, want, 0)
				checkTwo(t, op, b, a, want, 0)
			}
			for _, b := range nans() {
				checkTwo(t, op, a, b, want, 0)
			}
		}
	}
}

// TestP43Edges: P4.3, every operation on every two edges, and on others, held against exact numbers.
func TestP43Edges(t *testing.T) {
	l := edges()
	for op := add; op <= eq; op++ {
		for _, a := range l {
			for _, b := range l {
				checkTwo(t, op, a, b, exactTwo(op, a, b), 0)
			}
		}
	}
	others := some(2000)
	for op := add; op <= eq; op++ {
		for i, a := range others {
			b, c := others[(i+1)%len(others)], l[i%len(l)]
			checkTwo(t, op, a, b, exactTwo(op, a, b), 0)
			checkTwo(t, op, a, c, exactTwo(op, a, c), 0)
			checkTwo(t, op, a, a, exactTwo(op, a, a), 0)
		}
	}
}

// TestP43Wrong: P4.3, an operation that is of one or of none.
func TestP43Wrong(t *testing.T) {
	for _, op := range append(wrongNumbers(), neg, abs) {
		for _, f := range []api.Cell{0, low, one, inf, nan, -1} {
			checkTwo(t, op, f, f, 0, errArg)
			checkTwo(t, op, one, f, 0, errArg)
		}
	}
}

func checkText(t *testing.T, f api.Cell, want string) {
	t.Helper()
	if got := real.Text(f); got != want {
		t.Errorf("Text(%#x) = %q, want %q", uint64(f), got, want)
	}
}

// TestP44Text: P4.4, plain cases written by hand, with a sign and without.
func TestP44Text(t *testing.T) {
	for _, x := range []struct {
		f    api.Cell
		want string
	}{
		{0, "0p0"}, {inf, "inf"}, {one, "1p0"}, {two, "1p1"}, {three, "3p0"}, {half, "1p-1"}, {0x4028000000000000, "3p2"}, {0x3FE8000000000000, "3p-2"}, {tenth, "3602879701896397p-55"}, {0x4024000000000000, "5p1"},
		{least, "1p-1074"}, {2, "1p-1073"}, {3, "3p-1074"}, {tiny - 1, "4503599627370495p-1074"}, {tiny, "1p-1022"}, {tiny + 1, "4503599627370497p-1074"},
		{huge, "9007199254740991p971"}, {0x7FE0000000000000, "1p1023"}, {one + 1, "4503599627370497p-52"}, {one - 1, "9007199254740991p-53"}, {whole, "1p63"},
	} {
		checkText(t, x.f, x.want)
		checkText(t, low|x.f, "-"+x.want)
	}
	for _, f := range nans() {
		checkText(t, f, "nan")
	}
	f, e := real.Two(div, real.Of(1), real.Of(-4))
	if e != 0 {
		t.Errorf("1 by -4: %d", e)
	}
	checkText(t, f, "-1p-2")
}

// TestP44Form: P4.4, the text of each number has the chapter's form, its M is odd, and it tells just that number.
func TestP44Form(t *testing.T) {
	form := regexp.MustCompile(`^(-?)([1-9][0-9]*)p(-?(?:0|[1-9][0-9]*))$`)
	for _, f := range append(edges(), some(3000)...) {
		if isZero(f) || isInf(f) || isNaN(f) {
			continue
		}
		parts := form.FindStringSubmatch(real.Text(f))
		if parts == nil {
			t.Fatalf("Text(%#x) = %q", uint64(f), real.Text(f))
		}
		m, _ := new(big.Int).SetString(parts[1]+parts[2], 10)
		e, _ := strconv.Atoi(parts[3])
		if m.Bit(0) == 0 || parts[3] == "-0" {
			t.Errorf("Text(%#x) = %q", uint64(f), parts[0])
		}
		if x := new(big.Rat).SetInt(m); x.Mul(x, power(e)).Cmp(exact(f)) != 0 {
			t.Errorf("Text(%#x) = %q is another number", uint64(f), parts[0])
		}
	}
}

func checkNumber(t *testing.T, s string, want api.Cell, ok bool) {
	t.Helper()
	if got, is := real.Number(s); got != want || is != ok {
		t.Errorf("Number(%q) = %#x, %t, want %#x, %t", s, uint64(got), is, uint64(want), ok)
	}
}

// TestP45Number: P4.5, plain cases written by hand, with a sign and without.
func TestP45Number(t *testing.T) {
	for _, x := range []struct {
		s    string
		want api.Cell
	}{
		{"1p0", one}, {"1p-0", one}, {"1p00", one}, {"3p0", three}, {"12p0", 0x4028000000000000}, {"3p2", 0x4028000000000000}, {"6p1", 0x4028000000000000}, {"2p-2", half}, {"0003p-0002", 0x3FE8000000000000},
		{"0p0", 0}, {"0p5", 0}, {"0p-5", 0}, {"0p9999", 0}, {"0p-9999", 0}, {"0000000000000000p0000", 0}, {"0000000000000001p0000", one},
		{"1p-1074", least}, {"2p-1075", least}, {"4p-1076", least}, {"9007199254740992p-1127", least}, {"4503599627370495p-1074", tiny - 1}, {"9007199254740990p-1075", tiny - 1}, {"1p-1022", tiny}, {"9007199254740991p-1074", 2*tiny - 1},
		{"9007199254740991p971", huge}, {"9007199254740992p970", 0x7FE0000000000000}, {"1p1023", 0x7FE0000000000000}, {"2p1022", 0x7FE0000000000000},
		{"9007199254740991p0", 0x433FFFFFFFFFFFFF}, {"9007199254740992p0", 0x4340000000000000}, {"9007199254740992p-53", one}, {"1p0001", two},
	} {
		checkNumber(t, x.s, x.want, true)
		checkNumber(t, "-"+x.s, low|x.want, true)
	}
}

// TestP45None: P4.5, texts of another form.
func TestP45None(t *testing.T) {
	for _, s := range []string{
		"", "-", "p", "-p", "1", "-1", "1p", "p1", "-p1", "1p-", "p-1", "p-", "--1p1", "1p--1", "1-p1", "1p1-", "-1p-", "+1p1", "1p+1", "-+1p1", "1p1p1", "1pp1", "1p1p",
		" 1p1", "1p1 ", "1 p1", "1p 1", "- 1p1", "1p- 1", "1P1", "1e1", "1.p1", "1.5p1", "1p1.", ".5p1", "ap1", "1ap1", "1pa", "1p1a", "0x1p1", "0xap1", "1_0p1", "1p1_0", "1,p1", "#1p1", "$1p1",
		"inf", "-inf", "nan", "-nan", "infp0", "nanp0", "1pinf", "1p1\n", "1p1\x00", "\x001p1", "1\x00p1", "1p\xff", "\xffp1", "\u0661p1", "1p\u0661", "\u22121p1", "1p\u22121", "\uff11p1",
		"00000000000000001p0", "00000000000000000p0", "1p00001", "1p00000", "0p10000", "0p-10000", "1p-00001", "-00000000000000001p0", "10000000000000000p0",
	} {
		checkNumber(t, s, 0, false)
	}
	checkNumber(t, strings.Repeat("0", 1000)+"1p0", 0, false)
	checkNumber(t, "1p"+strings.Repeat("0", 1000), 0, false)
	checkNumber(t, strings.Repeat("9", 400)+"p9", 0, false)
	checkNumber(t, "0p"+strings.Repeat("9", 400), 0, false)
}

// TestP45Range: P4.5, texts of the form whose number is too great, too small, or has too many bits.
func TestP45Range(t *testing.T) {
	for _, s := range []string{
		"9007199254740993p0", "9007199254740994p0", "9007199254740993p-1", "9999999999999999p0", "9007199254740993p-9999", "9007199254740993p9999",
		"1p1024", "2p1023", "3p1023", "9007199254740992p971", "9007199254740991p972", "1p9999", "9007199254740992p9999",
		"1p-1075", "3p-1075", "1p-1076", "2p-1076", "9007199254740991p-1075", "9007199254740989p-1075", "4503599627370497p-1075", "6p-1076", "9007199254740991p-1127", "9007199254740992p-1128", "1p-9999", "9007199254740992p-9999",
	} {
		checkNumber(t, s, 0, false)
		checkNumber(t, "-"+s, 0, false)
	}
}

// form is the chapter's form of a real number, as a pattern.
var form = regexp.MustCompile(`^(-?)([0-9]{1,16})p(-?[0-9]{1,4})$`)

// formal is the real number of a text by the pattern and by exact numbers.
func formal(s string) (api.Cell, bool) {
	parts := form.FindStringSubmatch(s)
	if parts == nil {
		return 0, false
	}
	m, _ := strconv.ParseInt(parts[2], 10, 64)
	e, _ := strconv.Atoi(parts[3])
	x := new(big.Rat).Mul(new(big.Rat).SetInt64(m), power(e))
	f := rounded(x, 0)
	if m > 1<<53 || isInf(f) || exact(f).Cmp(x) != 0 {
		return 0, false
	}
	if parts[1] != "" {
		f |= low
	}
	return f, true
}

func checkFormal(t *testing.T, s string) {
	t.Helper()
	want, ok := formal(s)
	checkNumber(t, s, want, ok)
}

// TestP45Form: P4.5, every short text of the characters that matter.
func TestP45Form(t *testing.T) {
	const letters = "-p019+P."
	texts := []string{""}
	for from := 0; len(texts) < 200000; {
		to := len(texts)
		for _, s := range texts[from:to] {
			for _, c := range letters {
				texts = append(texts, s+string(c))
			}
		}
		from = to
	}
	for _, s := range texts {
		checkFormal(t, s)
	}
}

// TestP45Powers: P4.5, numbers of few and of many bits with every exponent at which they come to be too great or too small.
func TestP45Powers(t *testing.T) {
	for _, m := range []string{"0", "1", "2", "3", "5", "6", "12", "255", "256", "4503599627370495", "4503599627370496", "4503599627370497", "9007199254740984", "9007199254740988", "9007199254740990", "9007199254740991", "9007199254740992", "9007199254740993"} {
		for e := -1140; e <= 1040; e++ {
			checkFormal(t, m+"p"+strconv.Itoa(e))
			checkFormal(t, "-"+m+"p"+strconv.Itoa(e))
		}
	}
}

// TestP46Back: P4.6, Number of the Text of a finite number is that number; of the others it is none.
func TestP46Back(t *testing.T) {
	for _, f := range append(edges(), some(20000)...) {
		if isInf(f) || isNaN(f) {
			checkNumber(t, real.Text(f), 0, false)
		} else {
			checkNumber(t, real.Text(f), f, true)
		}
	}
	for _, f := range nans() {
		checkNumber(t, real.Text(f), 0, false)
	}
}

// TestPure: what a call answers does not hang on earlier calls.
func TestPure(t *testing.T) {
	for range 3 {
		checkOf(t, 3, three)
		checkTo(t, low|three, -3, 0)
		checkTo(t, inf, 0, thReal)
		checkOne(t, neg, one, low|one, 0)
		checkOne(t, add, one, 0, errArg)
		checkTwo(t, add, one, two, three, 0)
		checkTwo(t, neg, one, two, 0, errArg)
		checkText(t, three, "3p0")
		checkNumber(t, "3p0", three, true)
		checkNumber(t, "3", 0, false)
	}
}
