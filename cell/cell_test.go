package cell_test

import (
	"math"
	"math/big"
	"testing"

	"rhyton/api"
	"rhyton/cell"
)

const (
	least    = api.Cell(math.MinInt64)
	greatest = api.Cell(math.MaxInt64)
)

// The ends of both groups are written as numbers: a wrong name in the package cannot hide behind the same name here.
const (
	firstOfOne = 1
	lastOfOne  = 10
	firstOfTwo = 11
	lastOfTwo  = 27
)

func edges() []api.Cell {
	return []api.Cell{
		least, least + 1, least + 2, -1 << 62, -1<<32 - 1, -1 << 32, -1 << 31, -256, -255, -65, -64, -63, -10, -7, -3, -2, -1,
		0, 1, 2, 3, 5, 7, 10, 31, 32, 33, 62, 63, 64, 65, 127, 128, 255, 256, 1 << 31, 1 << 32, 1<<32 + 1, 1 << 62, greatest - 1, greatest,
	}
}

func truth(is bool) *big.Int {
	if is {
		return big.NewInt(-1)
	}
	return new(big.Int)
}

func signed(a api.Cell) *big.Int { return big.NewInt(int64(a)) }

func unsigned(a api.Cell) *big.Int { return new(big.Int).SetUint64(uint64(a)) }

// wrapped is n modulo 2^64, as a cell.
func wrapped(n *big.Int) api.Cell {
	low := new(big.Int).And(n, new(big.Int).SetUint64(math.MaxUint64))
	return api.Cell(low.Uint64())
}

// floored divides exactly and rounds down: DivMod's remainder is never negative, so a negative divisor needs one more step.
func floored(a, b *big.Int) (quotient, remainder *big.Int) {
	quotient, remainder = new(big.Int).DivMod(a, b, new(big.Int))
	if b.Sign() < 0 && remainder.Sign() != 0 {
		quotient.Sub(quotient, big.NewInt(1))
		remainder.Add(remainder, b)
	}
	return quotient, remainder
}

func shifted(a, b api.Cell, left bool) *big.Int {
	n := unsigned(b)
	if n.Cmp(big.NewInt(64)) >= 0 {
		return new(big.Int)
	}
	if left {
		return new(big.Int).Lsh(unsigned(a), uint(n.Uint64()))
	}
	return new(big.Int).Rsh(unsigned(a), uint(n.Uint64()))
}

// exactOne is the chapter's result of an operation on one cell, before it wraps around.
func exactOne(op int, c api.Cell) *big.Int {
	a := signed(c)
	switch op {
	case api.PmNegate:
		return new(big.Int).Neg(a)
	case api.PmAbs:
		return new(big.Int).Abs(a)
	case api.PmInvert:
		return new(big.Int).Not(a)
	case api.PmInc:
		return new(big.Int).Add(a, big.NewInt(1))
	case api.PmDec:
		return new(big.Int).Sub(a, big.NewInt(1))
	case api.PmTwice:
		return new(big.Int).Mul(a, big.NewInt(2))
	case api.PmHalf:
		half, _ := floored(a, big.NewInt(2))
		return half
	case api.PmIsZero:
		return truth(a.Sign() == 0)
	case api.PmIsNeg:
		return truth(a.Sign() < 0)
	case api.PmNonZero:
		return truth(a.Sign() != 0)
	}
	return nil
}

// exactTwo is the chapter's result of an operation on two cells, before it wraps around; b is not 0 where it divides.
func exactTwo(op int, c, d api.Cell) *big.Int {
	a, b := signed(c), signed(d)
	switch op {
	case api.PmAdd:
		return new(big.Int).Add(a, b)
	case api.PmSub:
		return new(big.Int).Sub(a, b)
	case api.PmMul:
		return new(big.Int).Mul(a, b)
	case api.PmDiv:
		quotient, _ := floored(a, b)
		return quotient
	case api.PmMod:
		_, remainder := floored(a, b)
		return remainder
	case api.PmAnd:
		return new(big.Int).And(a, b)
	case api.PmOr:
		return new(big.Int).Or(a, b)
	case api.PmXor:
		return new(big.Int).Xor(a, b)
	case api.PmLeft:
		return shifted(c, d, true)
	case api.PmRight:
		return shifted(c, d, false)
	}
	return exactOrder(op, c, d)
}

func exactOrder(op int, c, d api.Cell) *big.Int {
	a, b := signed(c), signed(d)
	order := a.Cmp(b)
	switch op {
	case api.PmEqual:
		return truth(order == 0)
	case api.PmOther:
		return truth(order != 0)
	case api.PmLess:
		return truth(order < 0)
	case api.PmMore:
		return truth(order > 0)
	case api.PmULess:
		return truth(unsigned(c).Cmp(unsigned(d)) < 0)
	case api.PmMin:
		if order < 0 {
			return a
		}
		return b
	case api.PmMax:
		if order > 0 {
			return a
		}
		return b
	}
	return nil
}

// wrongNumbers are numbers of operations that belong to no cell operation at all.
func wrongNumbers() []int {
	return []int{math.MinInt, math.MinInt32, -256, -28, -27, -12, -11, -10, -1, 0, 28, 29, api.PmDup, api.PmDepth, api.PmStacks, api.PmLast, 256 + 1, 256 + 11, 1<<32 + 1, 1<<32 + 11, math.MaxInt32, math.MaxInt}
}

// TestP11Truth: P1.1.
func TestP11Truth(t *testing.T) {
	if got := cell.Truth(true); got != -1 {
		t.Errorf("Truth(true) = %d, want -1", got)
	}
	if got := cell.Truth(false); got != 0 {
		t.Errorf("Truth(false) = %d, want 0", got)
	}
}

// TestP11Many: P1.1, each number in turn.
func TestP11Many(t *testing.T) {
	for op := -300; op <= 300; op++ {
		want := 0
		if op >= firstOfOne && op <= lastOfOne {
			want = 1
		}
		if op >= firstOfTwo && op <= lastOfTwo {
			want = 2
		}
		if got := cell.Many(op); got != want {
			t.Errorf("Many(%d) = %d, want %d", op, got, want)
		}
	}
}

// TestP11ManyNames: P1.1, the operations at the ends by their names, and numbers of nothing.
func TestP11ManyNames(t *testing.T) {
	for _, x := range []struct{ op, want int }{
		{api.PmNegate, 1}, {api.PmNonZero, 1}, {api.PmAdd, 2}, {api.PmMax, 2}, {api.PmNegate - 1, 0}, {api.PmMax + 1, 0}, {api.PmCells, 0},
	} {
		if got := cell.Many(x.op); got != x.want {
			t.Errorf("Many(%d) = %d, want %d", x.op, got, x.want)
		}
	}
	for _, op := range wrongNumbers() {
		if got := cell.Many(op); got != 0 {
			t.Errorf("Many(%d) = %d, want 0", op, got)
		}
	}
}

// TestP12One: P1.2, plain cases written by hand.
func TestP12One(t *testing.T) {
	for _, x := range []struct {
		op      int
		a, want api.Cell
	}{
		{api.PmNegate, 5, -5}, {api.PmNegate, -5, 5}, {api.PmNegate, 0, 0}, {api.PmNegate, least, least}, {api.PmNegate, greatest, least + 1},
		{api.PmAbs, -7, 7}, {api.PmAbs, 7, 7}, {api.PmAbs, 0, 0}, {api.PmAbs, least, least}, {api.PmAbs, least + 1, greatest},
		{api.PmInvert, 0, -1}, {api.PmInvert, -1, 0}, {api.PmInvert, 5, -6}, {api.PmInvert, least, greatest},
		{api.PmInc, 4, 5}, {api.PmInc, -1, 0}, {api.PmInc, greatest, least},
		{api.PmDec, 4, 3}, {api.PmDec, 0, -1}, {api.PmDec, least, greatest},
		{api.PmTwice, 21, 42}, {api.PmTwice, -3, -6}, {api.PmTwice, 1 << 62, least}, {api.PmTwice, least, 0}, {api.PmTwice, greatest, -2},
		{api.PmHalf, 7, 3}, {api.PmHalf, 6, 3}, {api.PmHalf, 1, 0}, {api.PmHalf, -1, -1}, {api.PmHalf, -2, -1}, {api.PmHalf, -7, -4}, {api.PmHalf, least, -1 << 62}, {api.PmHalf, least + 1, -1 << 62},
		{api.PmIsZero, 0, -1}, {api.PmIsZero, 1, 0}, {api.PmIsZero, -1, 0}, {api.PmIsZero, least, 0}, {api.PmIsZero, 1 << 32, 0},
		{api.PmIsNeg, -1, -1}, {api.PmIsNeg, least, -1}, {api.PmIsNeg, 0, 0}, {api.PmIsNeg, 1, 0}, {api.PmIsNeg, greatest, 0},
		{api.PmNonZero, 0, 0}, {api.PmNonZero, 9, -1}, {api.PmNonZero, -9, -1}, {api.PmNonZero, least, -1}, {api.PmNonZero, 1 << 32, -1},
	} {
		if got, e := cell.One(x.op, x.a); got != x.want || e != api.OK {
			t.Errorf("One(%d, %d) = %d, %d, want %d, 0", x.op, x.a, got, e, x.want)
		}
	}
}

// TestP12OneEdges: P1.2, every operation on every edge, held against exact integers.
func TestP12OneEdges(t *testing.T) {
	for op := firstOfOne; op <= lastOfOne; op++ {
		for _, a := range edges() {
			want := wrapped(exactOne(op, a))
			if got, e := cell.One(op, a); got != want || e != api.OK {
				t.Errorf("One(%d, %d) = %d, %d, want %d, 0", op, a, got, e, want)
			}
		}
	}
}

// TestP12OneWrong: P1.2, an operation that is of two cells or of none.
func TestP12OneWrong(t *testing.T) {
	wrong := wrongNumbers()
	for op := firstOfTwo; op <= lastOfTwo; op++ {
		wrong = append(wrong, op)
	}
	for _, op := range wrong {
		for _, a := range []api.Cell{least, -1, 0, 7, greatest} {
			if got, e := cell.One(op, a); got != 0 || e != api.ErrArg {
				t.Errorf("One(%d, %d) = %d, %d, want 0, 1", op, a, got, e)
			}
		}
	}
}

// TestP13Arithmetic: P1.3, plain cases written by hand.
func TestP13Arithmetic(t *testing.T) {
	checkTwo(t, []twoCase{
		{api.PmAdd, 2, 3, 5}, {api.PmAdd, greatest, 1, least}, {api.PmAdd, least, -1, greatest}, {api.PmAdd, least, least, 0},
		{api.PmSub, 3, 5, -2}, {api.PmSub, least, 1, greatest}, {api.PmSub, 0, least, least},
		{api.PmMul, 6, -7, -42}, {api.PmMul, 1 << 62, 4, 0}, {api.PmMul, least, -1, least}, {api.PmMul, 1<<32 + 1, 1<<32 + 1, 1<<33 + 1},
		{api.PmDiv, 7, 2, 3}, {api.PmDiv, -7, 2, -4}, {api.PmDiv, 7, -2, -4}, {api.PmDiv, -7, -2, 3}, {api.PmDiv, -8, 2, -4}, {api.PmDiv, 8, -2, -4},
		{api.PmDiv, 1, -2, -1}, {api.PmDiv, -1, 2, -1}, {api.PmDiv, 1, 2, 0}, {api.PmDiv, -1, -2, 0}, {api.PmDiv, 0, -5, 0}, {api.PmDiv, 5, -1, -5}, {api.PmDiv, least, -1, least}, {api.PmDiv, least, 1, least}, {api.PmDiv, greatest, least, -1}, {api.PmDiv, least, greatest, -2},
		{api.PmMod, 7, 2, 1}, {api.PmMod, -7, 2, 1}, {api.PmMod, 7, -2, -1}, {api.PmMod, -7, -2, -1}, {api.PmMod, -8, 2, 0}, {api.PmMod, 8, -2, 0},
		{api.PmMod, 1, -2, -1}, {api.PmMod, -1, 2, 1}, {api.PmMod, 0, -5, 0}, {api.PmMod, 5, -1, 0}, {api.PmMod, least, -1, 0}, {api.PmMod, greatest, least, -1}, {api.PmMod, least, greatest, greatest - 1},
	})
}

// TestP13Bits: P1.3, plain cases written by hand.
func TestP13Bits(t *testing.T) {
	checkTwo(t, []twoCase{
		{api.PmAnd, 12, 10, 8}, {api.PmAnd, -1, 5, 5}, {api.PmOr, 12, 10, 14}, {api.PmOr, least, 1, least + 1}, {api.PmXor, 12, 10, 6}, {api.PmXor, -1, 5, -6},
		{api.PmLeft, 5, 0, 5}, {api.PmLeft, 5, 3, 40}, {api.PmLeft, 1, 63, least}, {api.PmLeft, 3, 63, least}, {api.PmLeft, -1, 64, 0}, {api.PmLeft, -1, 65, 0}, {api.PmLeft, -1, 256, 0}, {api.PmLeft, -1, 1 << 32, 0}, {api.PmLeft, -1, -1, 0}, {api.PmLeft, -1, -64, 0}, {api.PmLeft, -1, least, 0}, {api.PmLeft, -1, greatest, 0},
		{api.PmRight, 5, 0, 5}, {api.PmRight, 40, 3, 5}, {api.PmRight, -1, 60, 15}, {api.PmRight, least, 63, 1}, {api.PmRight, -1, 1, greatest}, {api.PmRight, -1, 0, -1}, {api.PmRight, -1, 64, 0}, {api.PmRight, -1, 65, 0}, {api.PmRight, -1, 256, 0}, {api.PmRight, -1, 1 << 32, 0}, {api.PmRight, -1, -1, 0}, {api.PmRight, -1, -64, 0}, {api.PmRight, -1, least, 0}, {api.PmRight, -1, greatest, 0},
	})
}

// TestP13Order: P1.3, plain cases written by hand.
func TestP13Order(t *testing.T) {
	checkTwo(t, []twoCase{
		{api.PmEqual, 4, 4, -1}, {api.PmEqual, 4, 5, 0}, {api.PmEqual, 0, 1 << 32, 0}, {api.PmOther, 4, 4, 0}, {api.PmOther, 4, 5, -1}, {api.PmOther, 0, 1 << 32, -1},
		{api.PmLess, -1, 0, -1}, {api.PmLess, 0, -1, 0}, {api.PmLess, 4, 4, 0}, {api.PmLess, least, greatest, -1}, {api.PmLess, greatest, least, 0},
		{api.PmMore, -1, 0, 0}, {api.PmMore, 0, -1, -1}, {api.PmMore, 4, 4, 0}, {api.PmMore, greatest, least, -1}, {api.PmMore, least, greatest, 0},
		{api.PmULess, 1, 2, -1}, {api.PmULess, 2, 1, 0}, {api.PmULess, 4, 4, 0}, {api.PmULess, -1, 0, 0}, {api.PmULess, 0, -1, -1}, {api.PmULess, -2, -1, -1}, {api.PmULess, greatest, least, -1}, {api.PmULess, least, greatest, 0},
		{api.PmMin, -3, 3, -3}, {api.PmMin, 3, -3, -3}, {api.PmMin, 4, 4, 4}, {api.PmMin, least, greatest, least}, {api.PmMax, -3, 3, 3}, {api.PmMax, 3, -3, 3}, {api.PmMax, 4, 4, 4}, {api.PmMax, least, greatest, greatest},
	})
}

type twoCase struct {
	op         int
	a, b, want api.Cell
}

func checkTwo(t *testing.T, l []twoCase) {
	t.Helper()
	for _, x := range l {
		if got, e := cell.Two(x.op, x.a, x.b); got != x.want || e != api.OK {
			t.Errorf("Two(%d, %d, %d) = %d, %d, want %d, 0", x.op, x.a, x.b, got, e, x.want)
		}
	}
}

func divides(op int) bool { return op == api.PmDiv || op == api.PmMod }

// TestP13TwoEdges: P1.3, every operation on every two edges, held against exact integers.
func TestP13TwoEdges(t *testing.T) {
	for op := firstOfTwo; op <= lastOfTwo; op++ {
		for _, a := range edges() {
			for _, b := range edges() {
				if divides(op) && b == 0 {
					continue
				}
				want := wrapped(exactTwo(op, a, b))
				if got, e := cell.Two(op, a, b); got != want || e != api.OK {
					t.Errorf("Two(%d, %d, %d) = %d, %d, want %d, 0", op, a, b, got, e, want)
				}
			}
		}
	}
}

// TestP13Shifts: P1.3, every shift from below 0 to beyond 64.
func TestP13Shifts(t *testing.T) {
	for _, op := range []int{api.PmLeft, api.PmRight} {
		for b := api.Cell(-130); b <= 130; b++ {
			for _, a := range edges() {
				want := wrapped(exactTwo(op, a, b))
				if got, e := cell.Two(op, a, b); got != want || e != api.OK {
					t.Errorf("Two(%d, %d, %d) = %d, %d, want %d, 0", op, a, b, got, e, want)
				}
			}
		}
	}
}

// TestP13Zero: P1.3, only a division fails because of a 0.
func TestP13Zero(t *testing.T) {
	for op := firstOfTwo; op <= lastOfTwo; op++ {
		for _, a := range edges() {
			got, e := cell.Two(op, a, 0)
			if divides(op) && (got != 0 || e != api.ThZero) {
				t.Errorf("Two(%d, %d, 0) = %d, %d, want 0, -10", op, a, got, e)
			}
			if !divides(op) && e != api.OK {
				t.Errorf("Two(%d, %d, 0) = %d, %d, want OK", op, a, got, e)
			}
		}
	}
}

// TestP13TwoWrong: P1.3, an operation that is of one cell or of none; a 0 as the second cell is no other error.
func TestP13TwoWrong(t *testing.T) {
	wrong := wrongNumbers()
	for op := firstOfOne; op <= lastOfOne; op++ {
		wrong = append(wrong, op)
	}
	for _, op := range wrong {
		for _, b := range []api.Cell{least, -1, 0, 1, 64, greatest} {
			if got, e := cell.Two(op, 7, b); got != 0 || e != api.ErrArg {
				t.Errorf("Two(%d, 7, %d) = %d, %d, want 0, 1", op, b, got, e)
			}
		}
	}
}

// TestP14Division: P1.4, and the sign of the remainder.
func TestP14Division(t *testing.T) {
	cells := edges()
	for a := api.Cell(-12); a <= 12; a++ {
		cells = append(cells, a)
	}
	for _, a := range cells {
		for _, b := range cells {
			if b != 0 {
				checkDivision(t, a, b)
			}
		}
	}
}

func checkDivision(t *testing.T, a, b api.Cell) {
	t.Helper()
	quotient, e := cell.Two(api.PmDiv, a, b)
	remainder, f := cell.Two(api.PmMod, a, b)
	if e != api.OK || f != api.OK {
		t.Errorf("%d by %d: errors %d and %d", a, b, e, f)
	}
	if quotient*b+remainder != a {
		t.Errorf("%d by %d: %d times %d plus %d is not %d", a, b, quotient, b, remainder, a)
	}
	if signed(remainder).CmpAbs(signed(b)) >= 0 {
		t.Errorf("%d by %d: the remainder %d is too great", a, b, remainder)
	}
	if remainder != 0 && (remainder < 0) != (b < 0) {
		t.Errorf("%d by %d: the remainder %d has another sign than %d", a, b, remainder, b)
	}
}

// TestPure: what a call answers does not hang on earlier calls.
func TestPure(t *testing.T) {
	for range 3 {
		if got, e := cell.Two(api.PmDiv, -7, 2); got != -4 || e != api.OK {
			t.Errorf("Two(PmDiv, -7, 2) = %d, %d, want -4, 0", got, e)
		}
		if got, e := cell.Two(api.PmDiv, -7, 0); got != 0 || e != api.ThZero {
			t.Errorf("Two(PmDiv, -7, 0) = %d, %d, want 0, -10", got, e)
		}
		if got, e := cell.One(api.PmHalf, -7); got != -4 || e != api.OK {
			t.Errorf("One(PmHalf, -7) = %d, %d, want -4, 0", got, e)
		}
	}
}
