package pair_test

import (
	"math"
	"math/big"
	"testing"

	"rhyton/api"
	"rhyton/pair"
)

const (
	least    = api.Cell(math.MinInt64)
	greatest = api.Cell(math.MaxInt64)
)

// The codes are written as numbers: a wrong name in the package cannot hide behind the same name here.
const (
	zeroCode  = api.Errno(-10)
	rangeCode = api.Errno(-11)
)

// cellEdges are the cells at which signs and carries change.
func cellEdges() []api.Cell {
	return []api.Cell{
		least, least + 1, -1 << 62, -1<<32 - 1, -1 << 32, -10, -3, -2, -1,
		0, 1, 2, 3, 10, 1 << 32, 1<<32 + 1, 1 << 62, greatest - 1, greatest,
	}
}

// pairEdges are all pairs of two edges: pairs that are equal in one half only among them, and the least and the greatest pair.
func pairEdges() []api.Pair {
	var l []api.Pair
	for _, hi := range cellEdges() {
		for _, lo := range cellEdges() {
			l = append(l, api.Pair{Lo: lo, Hi: hi})
		}
	}
	return l
}

// smallPairs are the pairs from -n to n.
func smallPairs(n int64) []api.Pair {
	var l []api.Pair
	for i := -n; i <= n; i++ {
		l = append(l, wrapped(big.NewInt(i)))
	}
	return l
}

func signed(a api.Cell) *big.Int { return big.NewInt(int64(a)) }

func unsigned(a api.Cell) *big.Int { return new(big.Int).SetUint64(uint64(a)) }

// signedPair and unsignedPair are the exact numbers of a pair.
func signedPair(p api.Pair) *big.Int { return join(signed(p.Hi), unsigned(p.Lo)) }

func unsignedPair(p api.Pair) *big.Int { return join(unsigned(p.Hi), unsigned(p.Lo)) }

func join(hi, lo *big.Int) *big.Int { return new(big.Int).Add(new(big.Int).Lsh(hi, 64), lo) }

// wrapped is n modulo 2^128, as a pair.
func wrapped(n *big.Int) api.Pair {
	mask := new(big.Int).SetUint64(math.MaxUint64)
	lo := new(big.Int).And(n, mask)
	hi := new(big.Int).And(new(big.Int).Rsh(n, 64), mask)
	return api.Pair{Lo: api.Cell(lo.Uint64()), Hi: api.Cell(hi.Uint64())}
}

// power is 2^n.
func power(n uint) *big.Int { return new(big.Int).Lsh(big.NewInt(1), n) }

// within tells whether n is at least from and less than to.
func within(n, from, to *big.Int) bool { return n.Cmp(from) >= 0 && n.Cmp(to) < 0 }

func isSignedPair(n *big.Int) bool { return within(n, new(big.Int).Neg(power(127)), power(127)) }

// floored divides exactly and rounds down: DivMod's remainder is never negative, so a negative divisor needs one more step.
func floored(a, b *big.Int) (rest, quotient *big.Int) {
	quotient, rest = new(big.Int).DivMod(a, b, new(big.Int))
	if b.Sign() < 0 && rest.Sign() != 0 {
		quotient.Sub(quotient, big.NewInt(1))
		rest.Add(rest, b)
	}
	return rest, quotient
}

// truncated divides exactly and rounds towards 0.
func truncated(a, b *big.Int) (rest, quotient *big.Int) {
	quotient, rest = new(big.Int).QuoRem(a, b, new(big.Int))
	return rest, quotient
}

// checkSame tells of a pair that is not the exact number modulo 2^128.
func checkSame(t *testing.T, call string, got api.Pair, exact *big.Int) {
	t.Helper()
	if want := wrapped(exact); got != want {
		t.Errorf("%s = %v, want %v", call, got, want)
	}
}

func checkPair(t *testing.T, call string, got, want api.Pair) {
	t.Helper()
	if got != want {
		t.Errorf("%s = %v, want %v", call, got, want)
	}
}

// TestP21Of: P2.1.
func TestP21Of(t *testing.T) {
	checkPair(t, "Of(0)", pair.Of(0), api.Pair{})
	checkPair(t, "Of(7)", pair.Of(7), api.Pair{Lo: 7})
	checkPair(t, "Of(-1)", pair.Of(-1), api.Pair{Lo: -1, Hi: -1})
	checkPair(t, "Of(-7)", pair.Of(-7), api.Pair{Lo: -7, Hi: -1})
	checkPair(t, "Of(least)", pair.Of(least), api.Pair{Lo: least, Hi: -1})
	checkPair(t, "Of(greatest)", pair.Of(greatest), api.Pair{Lo: greatest})
	for _, a := range cellEdges() {
		checkSame(t, "Of("+signed(a).String()+")", pair.Of(a), signed(a))
	}
}

// TestP21Add: P2.1, plain sums, carries, and sums that wrap around.
func TestP21Add(t *testing.T) {
	for _, x := range []struct{ a, b, want api.Pair }{
		{api.Pair{Lo: 2}, api.Pair{Lo: 3}, api.Pair{Lo: 5}},
		{api.Pair{Lo: 2, Hi: 5}, api.Pair{Lo: 3, Hi: 7}, api.Pair{Lo: 5, Hi: 12}},
		{api.Pair{Lo: -1}, api.Pair{Lo: 1}, api.Pair{Hi: 1}},
		{api.Pair{Lo: least}, api.Pair{Lo: least}, api.Pair{Hi: 1}},
		{api.Pair{Lo: -1}, api.Pair{Lo: -1}, api.Pair{Lo: -2, Hi: 1}},
		{api.Pair{Lo: greatest}, api.Pair{Lo: 1}, api.Pair{Lo: least}},
		{api.Pair{Lo: -1, Hi: -1}, api.Pair{Lo: 1}, api.Pair{}},
		{api.Pair{Lo: -1, Hi: greatest}, api.Pair{Lo: 1}, api.Pair{Hi: least}},
		{api.Pair{Hi: least}, api.Pair{Lo: -1, Hi: -1}, api.Pair{Lo: -1, Hi: greatest}},
		{api.Pair{Hi: least}, api.Pair{Hi: least}, api.Pair{}},
	} {
		checkPair(t, "a sum", pair.Add(x.a, x.b), x.want)
		checkPair(t, "the sum the other way round", pair.Add(x.b, x.a), x.want)
	}
}

// TestP21AddEdges: P2.1, every two edges, held against exact integers.
func TestP21AddEdges(t *testing.T) {
	for _, a := range pairEdges() {
		for _, b := range pairEdges() {
			exact := new(big.Int).Add(signedPair(a), signedPair(b))
			if got, want := pair.Add(a, b), wrapped(exact); got != want {
				t.Fatalf("Add(%v, %v) = %v, want %v", a, b, got, want)
			}
		}
	}
}

// TestP21OfOne: P2.1, Neg, Twice and Half, plain cases written by hand.
func TestP21OfOne(t *testing.T) {
	for _, x := range []struct{ a, neg, twice, half api.Pair }{
		{api.Pair{}, api.Pair{}, api.Pair{}, api.Pair{}},
		{api.Pair{Lo: 7}, api.Pair{Lo: -7, Hi: -1}, api.Pair{Lo: 14}, api.Pair{Lo: 3}},
		{api.Pair{Lo: -7, Hi: -1}, api.Pair{Lo: 7}, api.Pair{Lo: -14, Hi: -1}, api.Pair{Lo: -4, Hi: -1}},
		{api.Pair{Lo: 1}, api.Pair{Lo: -1, Hi: -1}, api.Pair{Lo: 2}, api.Pair{}},
		{api.Pair{Lo: -1, Hi: -1}, api.Pair{Lo: 1}, api.Pair{Lo: -2, Hi: -1}, api.Pair{Lo: -1, Hi: -1}},
		{api.Pair{Lo: -1}, api.Pair{Lo: 1, Hi: -1}, api.Pair{Lo: -2, Hi: 1}, api.Pair{Lo: greatest}},
		{api.Pair{Lo: least}, api.Pair{Lo: least, Hi: -1}, api.Pair{Hi: 1}, api.Pair{Lo: 1 << 62}},
		{api.Pair{Hi: 1}, api.Pair{Hi: -1}, api.Pair{Hi: 2}, api.Pair{Lo: least}},
		{api.Pair{Hi: -1}, api.Pair{Hi: 1}, api.Pair{Hi: -2}, api.Pair{Lo: least, Hi: -1}},
		{api.Pair{Hi: least}, api.Pair{Hi: least}, api.Pair{}, api.Pair{Hi: -1 << 62}},
		{api.Pair{Lo: 1, Hi: least}, api.Pair{Lo: -1, Hi: greatest}, api.Pair{Lo: 2}, api.Pair{Hi: -1 << 62}},
		{api.Pair{Lo: -1, Hi: greatest}, api.Pair{Lo: 1, Hi: least}, api.Pair{Lo: -2, Hi: -1}, api.Pair{Lo: -1, Hi: 1<<62 - 1}},
	} {
		checkPair(t, "Neg", pair.Neg(x.a), x.neg)
		checkPair(t, "Twice", pair.Twice(x.a), x.twice)
		checkPair(t, "Half", pair.Half(x.a), x.half)
	}
}

// TestP21OfOneEdges: P2.1, every edge, held against exact integers.
func TestP21OfOneEdges(t *testing.T) {
	for _, a := range append(pairEdges(), smallPairs(20)...) {
		n := signedPair(a)
		checkSame(t, "Neg("+n.String()+")", pair.Neg(a), new(big.Int).Neg(n))
		checkSame(t, "Twice("+n.String()+")", pair.Twice(a), new(big.Int).Lsh(n, 1))
		_, half := floored(n, big.NewInt(2))
		checkSame(t, "Half("+n.String()+")", pair.Half(a), half)
	}
}

// TestP21Less: P2.1, plain cases written by hand; in each a and b differ, so that one way round answers the other one.
func TestP21Less(t *testing.T) {
	for _, x := range []struct {
		a, b        api.Pair
		less, uless bool
	}{
		{api.Pair{Lo: 1}, api.Pair{Lo: 2}, true, true},
		{api.Pair{Lo: 1}, api.Pair{Lo: -1}, true, true},
		{api.Pair{Lo: greatest}, api.Pair{Lo: least}, true, true},
		{api.Pair{Lo: 1, Hi: -1}, api.Pair{Lo: -1, Hi: -1}, true, true},
		{api.Pair{Lo: -1, Hi: -1}, api.Pair{}, true, false},
		{api.Pair{Hi: -1}, api.Pair{}, true, false},
		{api.Pair{Lo: 5, Hi: 1}, api.Pair{Lo: 5, Hi: 2}, true, true},
		{api.Pair{Lo: 9, Hi: 1}, api.Pair{Lo: 5, Hi: 2}, true, true},
		{api.Pair{Lo: -1, Hi: 1}, api.Pair{Hi: 2}, true, true},
		{api.Pair{Lo: 5, Hi: -2}, api.Pair{Lo: 5, Hi: -1}, true, true},
		{api.Pair{Lo: 5, Hi: -2}, api.Pair{Lo: 5, Hi: 1}, true, false},
		{api.Pair{Hi: least}, api.Pair{Lo: -1, Hi: greatest}, true, false},
		{api.Pair{Hi: least}, api.Pair{Lo: 1, Hi: least}, true, true},
	} {
		if got := pair.Less(x.a, x.b); got != x.less {
			t.Errorf("Less(%v, %v) = %t", x.a, x.b, got)
		}
		if got := pair.Less(x.b, x.a); got == x.less {
			t.Errorf("Less(%v, %v) = %t", x.b, x.a, got)
		}
		if got := pair.ULess(x.a, x.b); got != x.uless {
			t.Errorf("ULess(%v, %v) = %t", x.a, x.b, got)
		}
		if got := pair.ULess(x.b, x.a); got == x.uless {
			t.Errorf("ULess(%v, %v) = %t", x.b, x.a, got)
		}
	}
}

// TestP21LessEdges: P2.1, every two edges, equal ones among them, held against exact integers.
func TestP21LessEdges(t *testing.T) {
	for _, a := range pairEdges() {
		for _, b := range pairEdges() {
			if got, want := pair.Less(a, b), signedPair(a).Cmp(signedPair(b)) < 0; got != want {
				t.Fatalf("Less(%v, %v) = %t", a, b, got)
			}
			if got, want := pair.ULess(a, b), unsignedPair(a).Cmp(unsignedPair(b)) < 0; got != want {
				t.Fatalf("ULess(%v, %v) = %t", a, b, got)
			}
		}
	}
}

// TestP22Products: P2.2, plain cases written by hand.
func TestP22Products(t *testing.T) {
	for _, x := range []struct {
		a, b      api.Cell
		mul, umul api.Pair
	}{
		{6, 7, api.Pair{Lo: 42}, api.Pair{Lo: 42}},
		{0, -1, api.Pair{}, api.Pair{}},
		{-3, 5, api.Pair{Lo: -15, Hi: -1}, api.Pair{Lo: -15, Hi: 4}},
		{-1, 1, api.Pair{Lo: -1, Hi: -1}, api.Pair{Lo: -1}},
		{-1, -1, api.Pair{Lo: 1}, api.Pair{Lo: 1, Hi: -2}},
		{1 << 32, 1 << 32, api.Pair{Hi: 1}, api.Pair{Hi: 1}},
		{least, 1, api.Pair{Lo: least, Hi: -1}, api.Pair{Lo: least}},
		{least, -1, api.Pair{Lo: least}, api.Pair{Lo: least, Hi: greatest}},
		{least, 2, api.Pair{Hi: -1}, api.Pair{Hi: 1}},
		{least, least, api.Pair{Hi: 1 << 62}, api.Pair{Hi: 1 << 62}},
		{greatest, greatest, api.Pair{Lo: 1, Hi: 1<<62 - 1}, api.Pair{Lo: 1, Hi: 1<<62 - 1}},
		{greatest, least, api.Pair{Lo: least, Hi: -1 << 62}, api.Pair{Lo: least, Hi: 1<<62 - 1}},
	} {
		checkPair(t, "Mul", pair.Mul(x.a, x.b), x.mul)
		checkPair(t, "Mul the other way round", pair.Mul(x.b, x.a), x.mul)
		checkPair(t, "UMul", pair.UMul(x.a, x.b), x.umul)
		checkPair(t, "UMul the other way round", pair.UMul(x.b, x.a), x.umul)
	}
}

// TestP22ProductsEdges: P2.2, every two edges, held against exact integers.
func TestP22ProductsEdges(t *testing.T) {
	for _, a := range cellEdges() {
		for _, b := range cellEdges() {
			call := "(" + signed(a).String() + ", " + signed(b).String() + ")"
			checkSame(t, "Mul"+call, pair.Mul(a, b), new(big.Int).Mul(signed(a), signed(b)))
			checkSame(t, "UMul"+call, pair.UMul(a, b), new(big.Int).Mul(unsigned(a), unsigned(b)))
		}
	}
}

type divider func(p api.Pair, b api.Cell) (api.Cell, api.Cell, api.Errno)

type divideCase struct {
	p              api.Pair
	b              api.Cell
	rest, quotient api.Cell
	e              api.Errno
}

func checkDivides(t *testing.T, name string, call divider, l []divideCase) {
	t.Helper()
	for _, x := range l {
		rest, quotient, e := call(x.p, x.b)
		if rest != x.rest || quotient != x.quotient || e != x.e {
			t.Errorf("%s(%v, %d) = %d, %d, %d, want %d, %d, %d", name, x.p, x.b, rest, quotient, e, x.rest, x.quotient, x.e)
		}
	}
}

// TestP22UDiv: P2.2, plain cases written by hand.
func TestP22UDiv(t *testing.T) {
	checkDivides(t, "UDiv", pair.UDiv, []divideCase{
		{api.Pair{Lo: 7}, 2, 1, 3, api.OK}, {api.Pair{Lo: 8}, 2, 0, 4, api.OK}, {api.Pair{Lo: 1}, 2, 1, 0, api.OK}, {api.Pair{}, 5, 0, 0, api.OK},
		{api.Pair{Lo: 7}, -2, 7, 0, api.OK}, {api.Pair{Lo: -1}, 1, 0, -1, api.OK}, {api.Pair{Lo: -1}, -1, 0, 1, api.OK}, {api.Pair{Lo: -2}, -1, -2, 0, api.OK},
		{api.Pair{Hi: 1}, 2, 0, least, api.OK}, {api.Pair{Hi: 1}, -1, 1, 1, api.OK}, {api.Pair{Hi: 1}, least, 0, 2, api.OK},
		{api.Pair{Hi: 1}, 1, 0, 0, rangeCode}, {api.Pair{Lo: -1, Hi: 1}, 2, 1, -1, api.OK}, {api.Pair{Hi: 2}, 2, 0, 0, rangeCode}, {api.Pair{Lo: -1, Hi: 2}, 2, 0, 0, rangeCode},
		{api.Pair{Lo: -1, Hi: -2}, -1, -2, -1, api.OK}, {api.Pair{Hi: -1}, -1, 0, 0, rangeCode}, {api.Pair{Lo: -1, Hi: -1}, -1, 0, 0, rangeCode}, {api.Pair{Lo: -7, Hi: -1}, 2, 0, 0, rangeCode},
		{api.Pair{Lo: -1, Hi: greatest}, least, greatest, -1, api.OK}, {api.Pair{Hi: least}, least, 0, 0, rangeCode}, {api.Pair{Hi: least}, least + 1, 2, -2, api.OK},
	})
}

// TestP22Floor: P2.2, plain cases written by hand: signs that differ, with something left and with nothing left, and the edges of the quotient.
func TestP22Floor(t *testing.T) {
	checkDivides(t, "Floor", pair.Floor, []divideCase{
		{pair.Of(7), 2, 1, 3, api.OK}, {pair.Of(-7), 2, 1, -4, api.OK}, {pair.Of(7), -2, -1, -4, api.OK}, {pair.Of(-7), -2, -1, 3, api.OK},
		{pair.Of(8), 2, 0, 4, api.OK}, {pair.Of(-8), 2, 0, -4, api.OK}, {pair.Of(8), -2, 0, -4, api.OK}, {pair.Of(-8), -2, 0, 4, api.OK},
		{pair.Of(1), 2, 1, 0, api.OK}, {pair.Of(-1), 2, 1, -1, api.OK}, {pair.Of(1), -2, -1, -1, api.OK}, {pair.Of(-1), -2, -1, 0, api.OK},
		{pair.Of(0), 5, 0, 0, api.OK}, {pair.Of(0), -5, 0, 0, api.OK},
		{pair.Of(greatest), 1, 0, greatest, api.OK}, {pair.Of(least), 1, 0, least, api.OK}, {pair.Of(greatest), -1, 0, least + 1, api.OK}, {pair.Of(least), -1, 0, 0, rangeCode},
		{pair.Of(least), least, 0, 1, api.OK}, {pair.Of(greatest), least, -1, -1, api.OK}, {pair.Of(least), greatest, greatest - 1, -2, api.OK},
		{api.Pair{Lo: -1}, 2, 1, greatest, api.OK}, {api.Pair{Hi: 1}, 2, 0, 0, rangeCode}, {api.Pair{Hi: 1}, -2, 0, least, api.OK}, {api.Pair{Lo: 1, Hi: 1}, -2, 0, 0, rangeCode},
		{api.Pair{Hi: -1}, 2, 0, least, api.OK}, {api.Pair{Lo: -1, Hi: -2}, 2, 0, 0, rangeCode}, {api.Pair{Lo: 1, Hi: -1}, -2, -1, greatest, api.OK}, {api.Pair{Hi: -1}, -2, 0, 0, rangeCode},
		{api.Pair{Hi: -1}, -1, 0, 0, rangeCode}, {api.Pair{Hi: 1}, -1, 0, 0, rangeCode}, {api.Pair{Hi: least}, 5, 0, 0, rangeCode}, {api.Pair{Hi: least}, -1, 0, 0, rangeCode}, {api.Pair{Hi: least}, least, 0, 0, rangeCode},
		{api.Pair{Hi: 1 << 62}, least, 0, least, api.OK}, {api.Pair{Lo: 1, Hi: 1 << 62}, least, 0, 0, rangeCode}, {api.Pair{Lo: 1, Hi: -1 << 62}, least, least + 1, greatest, api.OK}, {api.Pair{Hi: -1 << 62}, least, 0, 0, rangeCode},
	})
}

// TestP22Trunc: P2.2, plain cases written by hand: signs that differ, with something left and with nothing left, and the edges of the quotient.
func TestP22Trunc(t *testing.T) {
	checkDivides(t, "Trunc", pair.Trunc, []divideCase{
		{pair.Of(7), 2, 1, 3, api.OK}, {pair.Of(-7), 2, -1, -3, api.OK}, {pair.Of(7), -2, 1, -3, api.OK}, {pair.Of(-7), -2, -1, 3, api.OK},
		{pair.Of(8), 2, 0, 4, api.OK}, {pair.Of(-8), 2, 0, -4, api.OK}, {pair.Of(8), -2, 0, -4, api.OK}, {pair.Of(-8), -2, 0, 4, api.OK},
		{pair.Of(1), 2, 1, 0, api.OK}, {pair.Of(-1), 2, -1, 0, api.OK}, {pair.Of(1), -2, 1, 0, api.OK}, {pair.Of(-1), -2, -1, 0, api.OK},
		{pair.Of(0), 5, 0, 0, api.OK}, {pair.Of(0), -5, 0, 0, api.OK},
		{pair.Of(greatest), 1, 0, greatest, api.OK}, {pair.Of(least), 1, 0, least, api.OK}, {pair.Of(greatest), -1, 0, least + 1, api.OK}, {pair.Of(least), -1, 0, 0, rangeCode},
		{pair.Of(least), least, 0, 1, api.OK}, {pair.Of(greatest), least, greatest, 0, api.OK}, {pair.Of(least), greatest, -1, -1, api.OK},
		{api.Pair{Lo: -1}, 2, 1, greatest, api.OK}, {api.Pair{Hi: 1}, 2, 0, 0, rangeCode}, {api.Pair{Hi: 1}, -2, 0, least, api.OK}, {api.Pair{Lo: 1, Hi: 1}, -2, 1, least, api.OK}, {api.Pair{Lo: 2, Hi: 1}, -2, 0, 0, rangeCode},
		{api.Pair{Hi: -1}, 2, 0, least, api.OK}, {api.Pair{Lo: -1, Hi: -2}, 2, -1, least, api.OK}, {api.Pair{Lo: -2, Hi: -2}, 2, 0, 0, rangeCode}, {api.Pair{Lo: 1, Hi: -1}, -2, -1, greatest, api.OK}, {api.Pair{Hi: -1}, -2, 0, 0, rangeCode},
		{api.Pair{Hi: -1}, -1, 0, 0, rangeCode}, {api.Pair{Hi: 1}, -1, 0, 0, rangeCode}, {api.Pair{Hi: least}, 5, 0, 0, rangeCode}, {api.Pair{Hi: least}, -1, 0, 0, rangeCode}, {api.Pair{Hi: least}, least, 0, 0, rangeCode},
		{api.Pair{Hi: 1 << 62}, least, 0, least, api.OK}, {api.Pair{Lo: 1, Hi: 1 << 62}, least, 1, least, api.OK}, {api.Pair{Lo: greatest, Hi: 1 << 62}, least, greatest, least, api.OK}, {api.Pair{Lo: least, Hi: 1 << 62}, least, 0, 0, rangeCode}, {api.Pair{Hi: -1 << 62}, least, 0, 0, rangeCode},
	})
}

// TestP22Zero: P2.2, a division by 0 is that error and no other one, whatever the dividend.
func TestP22Zero(t *testing.T) {
	for _, p := range pairEdges() {
		none := []divideCase{{p, 0, 0, 0, zeroCode}}
		checkDivides(t, "UDiv", pair.UDiv, none)
		checkDivides(t, "Floor", pair.Floor, none)
		checkDivides(t, "Trunc", pair.Trunc, none)
	}
}

// rule is the chapter's meaning of a division: how its numbers are taken, how it rounds, and the range of its quotient.
type rule struct {
	name      string
	call      divider
	ofPair    func(api.Pair) *big.Int
	ofCell    func(api.Cell) *big.Int
	exact     func(a, b *big.Int) (rest, quotient *big.Int)
	from, to  *big.Int
	multiply  func(a, b api.Cell) api.Pair
	widenRest func(api.Cell) api.Pair
}

func rules() []rule {
	low := new(big.Int).Neg(power(63))
	return []rule{
		{"UDiv", pair.UDiv, unsignedPair, unsigned, truncated, new(big.Int), power(64), pair.UMul, func(a api.Cell) api.Pair { return api.Pair{Lo: a} }},
		{"Floor", pair.Floor, signedPair, signed, floored, low, power(63), pair.Mul, pair.Of},
		{"Trunc", pair.Trunc, signedPair, signed, truncated, low, power(63), pair.Mul, pair.Of},
	}
}

// check holds a division by a cell that is not 0 against exact integers.
func (r rule) check(t *testing.T, p api.Pair, b api.Cell) {
	t.Helper()
	exactRest, exactQuotient := r.exact(r.ofPair(p), r.ofCell(b))
	want := divideCase{p, b, 0, 0, rangeCode}
	if within(exactQuotient, r.from, r.to) {
		want.rest, want.quotient, want.e = wrapped(exactRest).Lo, wrapped(exactQuotient).Lo, api.OK
	}
	checkDivides(t, r.name, r.call, []divideCase{want})
}

// nearEdges are dividends whose quotients by b lie at the edges of what a cell holds, with as much left as may be, or little, or nothing.
func nearEdges(b api.Cell) []api.Pair {
	var l []api.Pair
	for _, quotient := range []*big.Int{new(big.Int).Neg(power(64)), new(big.Int).Neg(power(63)), new(big.Int), power(63), power(64)} {
		for step := int64(-2); step <= 2; step++ {
			for _, divisor := range []*big.Int{signed(b), unsigned(b)} {
				product := new(big.Int).Mul(new(big.Int).Add(quotient, big.NewInt(step)), divisor)
				for _, more := range []int64{-1, 0, 1} {
					l = append(l, wrapped(new(big.Int).Add(product, big.NewInt(more))))
				}
			}
		}
	}
	return l
}

// TestP22DivideEdges: P2.2, every edge and every dividend near the edges of the quotient, held against exact integers.
func TestP22DivideEdges(t *testing.T) {
	for _, r := range rules() {
		for _, b := range cellEdges() {
			if b == 0 {
				continue
			}
			for _, p := range append(pairEdges(), nearEdges(b)...) {
				r.check(t, p, b)
			}
		}
	}
}

// TestP22DivideSmall: P2.2, every small dividend by every small divisor.
func TestP22DivideSmall(t *testing.T) {
	for _, r := range rules() {
		for b := api.Cell(-12); b <= 12; b++ {
			if b == 0 {
				continue
			}
			for _, p := range smallPairs(40) {
				r.check(t, p, b)
			}
		}
	}
}

// checkBack: the quotient times the divisor, plus the remainder, is the dividend, and less is left than the divisor.
func (r rule) checkBack(t *testing.T, p api.Pair, b api.Cell) {
	t.Helper()
	rest, quotient, e := r.call(p, b)
	if e != api.OK {
		if rest != 0 || quotient != 0 {
			t.Errorf("%s(%v, %d) = %d, %d beside the error %d", r.name, p, b, rest, quotient, e)
		}
		return
	}
	if back := pair.Add(r.multiply(quotient, b), r.widenRest(rest)); back != p {
		t.Errorf("%s(%v, %d) = %d, %d, which is %v again", r.name, p, b, rest, quotient, back)
	}
	if r.ofCell(rest).CmpAbs(r.ofCell(b)) >= 0 {
		t.Errorf("%s(%v, %d) leaves %d", r.name, p, b, rest)
	}
}

// TestP23Back: P2.3, the quotient times b, plus the remainder, is p.
func TestP23Back(t *testing.T) {
	for _, r := range rules() {
		for _, b := range cellEdges() {
			if b == 0 {
				continue
			}
			for _, p := range append(pairEdges(), nearEdges(b)...) {
				r.checkBack(t, p, b)
			}
		}
	}
}

// TestP23Signs: P2.3 with P2.2, what is left has the sign of the divisor (Floor) or of the dividend (Trunc), or is 0.
func TestP23Signs(t *testing.T) {
	for _, b := range cellEdges() {
		if b == 0 {
			continue
		}
		for _, p := range append(pairEdges(), nearEdges(b)...) {
			if rest, _, _ := pair.Floor(p, b); rest != 0 && (rest < 0) != (b < 0) {
				t.Errorf("Floor(%v, %d) leaves %d", p, b, rest)
			}
			if rest, _, _ := pair.Trunc(p, b); rest != 0 && (rest < 0) != (p.Hi < 0) {
				t.Errorf("Trunc(%v, %d) leaves %d", p, b, rest)
			}
		}
	}
}

// TestP23Sums: P2.3, sums are the mathematical ones as long as they fit, with signs and without.
func TestP23Sums(t *testing.T) {
	for _, a := range pairEdges() {
		for _, b := range pairEdges() {
			got := pair.Add(a, b)
			exact := new(big.Int).Add(signedPair(a), signedPair(b))
			if isSignedPair(exact) && signedPair(got).Cmp(exact) != 0 {
				t.Fatalf("Add(%v, %v) = %v, want %v", a, b, signedPair(got), exact)
			}
			exact.Add(unsignedPair(a), unsignedPair(b))
			if within(exact, new(big.Int), power(128)) && unsignedPair(got).Cmp(exact) != 0 {
				t.Fatalf("Add(%v, %v) = %v without signs, want %v", a, b, unsignedPair(got), exact)
			}
		}
	}
}

// TestP23Products: P2.3, products are the mathematical ones; they always fit.
func TestP23Products(t *testing.T) {
	for _, a := range cellEdges() {
		for _, b := range cellEdges() {
			if got, exact := signedPair(pair.Mul(a, b)), new(big.Int).Mul(signed(a), signed(b)); got.Cmp(exact) != 0 {
				t.Errorf("Mul(%d, %d) = %v, want %v", a, b, got, exact)
			}
			if got, exact := unsignedPair(pair.UMul(a, b)), new(big.Int).Mul(unsigned(a), unsigned(b)); got.Cmp(exact) != 0 {
				t.Errorf("UMul(%d, %d) = %v without signs, want %v", a, b, got, exact)
			}
		}
	}
}

// TestPure: what a call answers does not hang on earlier calls, and an argument stays as it was.
func TestPure(t *testing.T) {
	p := pair.Of(-7)
	for range 3 {
		checkDivides(t, "Floor", pair.Floor, []divideCase{{p, 2, 1, -4, api.OK}, {p, 0, 0, 0, zeroCode}})
		checkDivides(t, "Trunc", pair.Trunc, []divideCase{{p, 2, -1, -3, api.OK}, {p, 0, 0, 0, zeroCode}})
		checkPair(t, "Neg", pair.Neg(p), api.Pair{Lo: 7})
		checkPair(t, "the argument", p, api.Pair{Lo: -7, Hi: -1})
	}
}
