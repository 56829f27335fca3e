// Package cell is layer 1, arithmetic, logic and comparison of 64-bit integers: see shared/doc/01-cell.md.
package cell

import "rhyton/api"

// Truth is a truth value as a cell: all bits 1 for true, so that and, or and invert serve for truths too.
func Truth(is bool) api.Cell {
	if is {
		return -1
	}
	return 0
}

// Many is how many operands an operation has; 0: there is no such operation.
func Many(op int) int {
	switch {
	case op >= api.PmNegate && op <= api.PmNonZero:
		return 1
	case op >= api.PmAdd && op <= api.PmMax:
		return 2
	}
	return 0
}

// One is the result of an operation on one cell.
func One(op int, a api.Cell) (api.Cell, api.Errno) {
	switch op {
	case api.PmNegate:
		return -a, api.OK
	case api.PmAbs:
		return max(a, -a), api.OK
	case api.PmInvert:
		return ^a, api.OK
	case api.PmInc:
		return a + 1, api.OK
	case api.PmDec:
		return a - 1, api.OK
	case api.PmTwice:
		return 2 * a, api.OK
	case api.PmHalf:
		return a >> 1, api.OK // a division would round towards 0
	case api.PmIsZero:
		return Truth(a == 0), api.OK
	case api.PmIsNeg:
		return Truth(a < 0), api.OK
	case api.PmNonZero:
		return Truth(a != 0), api.OK
	}
	return 0, api.ErrArg
}

// Two is the result of an operation on two cells.
func Two(op int, a, b api.Cell) (api.Cell, api.Errno) {
	do, ok := operations()[op]
	if !ok {
		return 0, api.ErrArg
	}
	if b == 0 && (op == api.PmDiv || op == api.PmMod) {
		return 0, api.ThZero
	}
	return do(a, b), api.OK
}

// operations are those on two cells, by their numbers.
func operations() map[int]func(a, b api.Cell) api.Cell {
	return map[int]func(a, b api.Cell) api.Cell{
		api.PmAdd:   func(a, b api.Cell) api.Cell { return a + b },
		api.PmSub:   func(a, b api.Cell) api.Cell { return a - b },
		api.PmMul:   func(a, b api.Cell) api.Cell { return a * b },
		api.PmDiv:   quotient,
		api.PmMod:   remainder,
		api.PmAnd:   func(a, b api.Cell) api.Cell { return a & b },
		api.PmOr:    func(a, b api.Cell) api.Cell { return a | b },
		api.PmXor:   func(a, b api.Cell) api.Cell { return a ^ b },
		api.PmLeft:  func(a, b api.Cell) api.Cell { return a << uint64(b) },
		api.PmRight: func(a, b api.Cell) api.Cell { return api.Cell(uint64(a) >> uint64(b)) },
		api.PmEqual: func(a, b api.Cell) api.Cell { return Truth(a == b) },
		api.PmOther: func(a, b api.Cell) api.Cell { return Truth(a != b) },
		api.PmLess:  func(a, b api.Cell) api.Cell { return Truth(a < b) },
		api.PmMore:  func(a, b api.Cell) api.Cell { return Truth(a > b) },
		api.PmULess: func(a, b api.Cell) api.Cell { return Truth(uint64(a) < uint64(b)) },
		api.PmMin:   func(a, b api.Cell) api.Cell { return min(a, b) },
		api.PmMax:   func(a, b api.Cell) api.Cell { return max(a, b) },
	}
}

// remainder has the sign of b, where that of the language has the sign of a.
func remainder(a, b api.Cell) api.Cell {
	r := a % b
	if r != 0 && (r < 0) != (b < 0) {
		r += b
	}
	return r
}

// quotient is rounded down, where that of the language is rounded towards 0.
func quotient(a, b api.Cell) api.Cell {
	q := a / b
	if q*b != a && (a < 0) != (b < 0) {
		q--
	}
	return q
}
