package prim

import "rhyton/api"

// hexadecimal is the base that PmHex sets.
const hexadecimal = 16

// memoryOperations are those that read and write the memory.
func (s *State) memoryOperations() map[int]operation {
	return map[int]operation{
		api.PmGet: ofCell(s.mem.Get),
		api.PmPut: {2, func(l []api.Cell) ([]api.Cell, api.Errno) { return nil, s.mem.Put(l[1], l[0]) }},
		api.PmGetC: ofCell(func(at api.Cell) (api.Cell, api.Errno) {
			c, e := s.mem.GetByte(at)
			return api.Cell(c), e
		}),
		api.PmPutC:    {2, func(l []api.Cell) ([]api.Cell, api.Errno) { return nil, s.mem.PutByte(l[1], byte(l[0])) }},
		api.PmAddTo:   {2, func(l []api.Cell) ([]api.Cell, api.Errno) { return nil, s.addTo(l[1], l[0]) }},
		api.PmGet2:    {1, func(l []api.Cell) ([]api.Cell, api.Errno) { return s.getTwo(l[0]) }},
		api.PmPut2:    {3, func(l []api.Cell) ([]api.Cell, api.Errno) { return nil, s.putTwo(l[2], l[0], l[1]) }},
		api.PmFill:    {3, func(l []api.Cell) ([]api.Cell, api.Errno) { return nil, s.mem.Fill(l[0], l[1], byte(l[2])) }},
		api.PmMove:    {3, func(l []api.Cell) ([]api.Cell, api.Errno) { return nil, s.mem.Move(l[0], l[1], l[2]) }},
		api.PmCount:   {1, func(l []api.Cell) ([]api.Cell, api.Errno) { return s.count(l[0]) }},
		api.PmDecimal: {0, func([]api.Cell) ([]api.Cell, api.Errno) { return nil, s.mem.Put(baseAt, decimal) }},
		api.PmHex:     {0, func([]api.Cell) ([]api.Cell, api.Errno) { return nil, s.mem.Put(baseAt, hexadecimal) }},
	}
}

// allotOperations are those that allocate.
func (s *State) allotOperations() map[int]operation {
	return map[int]operation{
		api.PmHere:   {0, func([]api.Cell) ([]api.Cell, api.Errno) { return []api.Cell{s.mem.Here()}, api.OK }},
		api.PmAllot:  {1, func(l []api.Cell) ([]api.Cell, api.Errno) { return nil, s.mem.Allot(l[0]) }},
		api.PmComma:  {1, func(l []api.Cell) ([]api.Cell, api.Errno) { return nil, s.mem.Comma(l[0]) }},
		api.PmCComma: {1, func(l []api.Cell) ([]api.Cell, api.Errno) { return nil, s.mem.CComma(byte(l[0])) }},
		api.PmAlign:  {0, func([]api.Cell) ([]api.Cell, api.Errno) { return nil, s.mem.Align() }},
	}
}

// addTo adds n to the cell at an address.
func (s *State) addTo(at, n api.Cell) api.Errno {
	x, e := s.mem.Get(at)
	if e != api.OK {
		return e
	}
	return s.mem.Put(at, x+n)
}

// getTwo is the cell behind the one at an address, and that one.
func (s *State) getTwo(at api.Cell) ([]api.Cell, api.Errno) {
	behind, e := s.mem.Get(at + api.Width)
	if e != api.OK {
		return nil, e
	}
	x, e := s.mem.Get(at)
	return []api.Cell{behind, x}, e
}

// putTwo stores y at an address, and x behind it. Whether y can be stored is asked first, because then it can't fail any more once x is stored.
func (s *State) putTwo(at, x, y api.Cell) api.Errno {
	if _, e := s.mem.Get(at); e != api.OK {
		return e
	}
	if e := s.mem.Put(at+api.Width, x); e != api.OK {
		return e
	}
	return s.mem.Put(at, y)
}

// count is the address behind a byte, and the byte.
func (s *State) count(at api.Cell) ([]api.Cell, api.Errno) {
	c, e := s.mem.GetByte(at)
	return []api.Cell{at + 1, api.Cell(c)}, e
}
