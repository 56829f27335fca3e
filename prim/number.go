package prim

import (
	"rhyton/api"
	"rhyton/cell"
	"rhyton/pair"
	"rhyton/real"
)

// cellOperation is one of layer 1's.
func cellOperation(op int) operation {
	if cell.Many(op) == 1 {
		return ofCell(func(a api.Cell) (api.Cell, api.Errno) { return cell.One(op, a) })
	}
	return ofCells(func(a, b api.Cell) (api.Cell, api.Errno) { return cell.Two(op, a, b) })
}

// realOperation is one of layer 4's.
func realOperation(op int) operation {
	switch op {
	case api.RlNeg, api.RlAbs:
		return ofCell(func(a api.Cell) (api.Cell, api.Errno) { return real.One(op, a) })
	}
	return ofCells(func(a, b api.Cell) (api.Cell, api.Errno) { return real.Two(op, a, b) })
}

// convertingOperations make another cell of one.
func convertingOperations() map[int]operation {
	return map[int]operation{
		api.PmToReal:   always(real.Of),
		api.PmFromReal: ofCell(real.To),
		api.PmAligned:  always(func(a api.Cell) api.Cell { return (a + api.Width - 1) &^ (api.Width - 1) }),
		api.PmBytes:    always(func(n api.Cell) api.Cell { return n * api.Width }),
	}
}

// pairOperations are those with pairs in them, or two results of a division.
func pairOperations() map[int]operation {
	return map[int]operation{
		api.PmWide:     {1, func(l []api.Cell) ([]api.Cell, api.Errno) { return cells(pair.Of(l[0])) }},
		api.PmAdd2:     ofPairs(pair.Add),
		api.PmSub2:     ofPairs(func(a, b api.Pair) api.Pair { return pair.Add(a, pair.Neg(b)) }),
		api.PmNeg2:     ofPair(pair.Neg),
		api.PmAbs2:     ofPair(absolute),
		api.PmLess2:    comparison(pair.Less),
		api.PmULess2:   comparison(pair.ULess),
		api.PmEqual2:   comparison(func(a, b api.Pair) bool { return a == b }),
		api.PmTwice2:   ofPair(pair.Twice),
		api.PmHalf2:    ofPair(pair.Half),
		api.PmMulW:     product(pair.Mul),
		api.PmUMulW:    product(pair.UMul),
		api.PmUDivW:    division(pair.UDiv),
		api.PmFloorW:   division(pair.Floor),
		api.PmTruncW:   division(pair.Trunc),
		api.PmScale:    {3, scale},
		api.PmScaleMod: {3, scaleMod},
		api.PmDivMod:   {2, divMod},
	}
}

// scaleMod is the remainder and the quotient of a product of two cells, divided by a third one.
func scaleMod(l []api.Cell) ([]api.Cell, api.Errno) {
	rest, quotient, e := pair.Floor(pair.Mul(l[0], l[1]), l[2])
	return []api.Cell{rest, quotient}, e
}

// scale is the same without the remainder.
func scale(l []api.Cell) ([]api.Cell, api.Errno) {
	both, e := scaleMod(l)
	return both[1:], e
}

// divMod is the remainder and the quotient of two cells.
func divMod(l []api.Cell) ([]api.Cell, api.Errno) {
	rest, e := cell.Two(api.PmMod, l[0], l[1])
	if e != api.OK {
		return nil, e
	}
	quotient, e := cell.Two(api.PmDiv, l[0], l[1])
	return []api.Cell{rest, quotient}, e
}

func absolute(a api.Pair) api.Pair {
	if a.Hi < 0 {
		return pair.Neg(a)
	}
	return a
}

// always makes a cell of a cell, without an error.
func always(do func(a api.Cell) api.Cell) operation {
	return ofCell(func(a api.Cell) (api.Cell, api.Errno) { return do(a), api.OK })
}

// ofCell makes a cell of a cell.
func ofCell(do func(a api.Cell) (api.Cell, api.Errno)) operation {
	return operation{1, func(l []api.Cell) ([]api.Cell, api.Errno) {
		x, e := do(l[0])
		return []api.Cell{x}, e
	}}
}

// ofCells makes a cell of two cells.
func ofCells(do func(a, b api.Cell) (api.Cell, api.Errno)) operation {
	return operation{2, func(l []api.Cell) ([]api.Cell, api.Errno) {
		x, e := do(l[0], l[1])
		return []api.Cell{x}, e
	}}
}

// ofPair makes a pair of a pair.
func ofPair(do func(a api.Pair) api.Pair) operation {
	return operation{2, func(l []api.Cell) ([]api.Cell, api.Errno) { return cells(do(pairOf(l))) }}
}

// ofPairs makes a pair of two pairs.
func ofPairs(do func(a, b api.Pair) api.Pair) operation {
	return operation{4, func(l []api.Cell) ([]api.Cell, api.Errno) { return cells(do(pairOf(l), pairOf(l[2:]))) }}
}

// comparison makes a truth value of two pairs.
func comparison(is func(a, b api.Pair) bool) operation {
	return operation{4, func(l []api.Cell) ([]api.Cell, api.Errno) {
		return []api.Cell{cell.Truth(is(pairOf(l), pairOf(l[2:])))}, api.OK
	}}
}

// product makes a pair of two cells.
func product(do func(m, n api.Cell) api.Pair) operation {
	return operation{2, func(l []api.Cell) ([]api.Cell, api.Errno) { return cells(do(l[0], l[1])) }}
}

// division makes a remainder and a quotient of a pair and a cell.
func division(do func(a api.Pair, n api.Cell) (api.Cell, api.Cell, api.Errno)) operation {
	return operation{3, func(l []api.Cell) ([]api.Cell, api.Errno) {
		rest, quotient, e := do(pairOf(l), l[2])
		return []api.Cell{rest, quotient}, e
	}}
}

// pairOf is the pair that the first two cells are.
func pairOf(l []api.Cell) api.Pair { return api.Pair{Lo: l[0], Hi: l[1]} }

// cells are the two cells of a pair, as they are pushed.
func cells(a api.Pair) ([]api.Cell, api.Errno) { return []api.Cell{a.Lo, a.Hi}, api.OK }
