package prim

import (
	"strconv"
	"strings"

	"rhyton/api"
	"rhyton/digit"
	"rhyton/pair"
	"rhyton/real"
)

// outputOperations are those that output.
func (s *State) outputOperations() map[int]operation {
	return map[int]operation{
		api.PmEmit:   {1, func(l []api.Cell) ([]api.Cell, api.Errno) { return s.say(character(l[0])) }},
		api.PmDot:    {1, func(l []api.Cell) ([]api.Cell, api.Errno) { return s.sayNumber(pair.Of(l[0])) }},
		api.PmUDot:   {1, func(l []api.Cell) ([]api.Cell, api.Errno) { return s.sayNumber(api.Pair{Lo: l[0]}) }},
		api.PmDDot:   {2, func(l []api.Cell) ([]api.Cell, api.Errno) { return s.sayNumber(pairOf(l)) }},
		api.PmRDot:   {1, func(l []api.Cell) ([]api.Cell, api.Errno) { return s.say(real.Text(l[0]) + " ") }},
		api.PmCr:     {0, func([]api.Cell) ([]api.Cell, api.Errno) { return s.say("\n") }},
		api.PmSpace:  {0, func([]api.Cell) ([]api.Cell, api.Errno) { return s.say(" ") }},
		api.PmSpaces: {1, func(l []api.Cell) ([]api.Cell, api.Errno) { return s.say(blanks(l[0])) }},
		api.PmType:   {2, func(l []api.Cell) ([]api.Cell, api.Errno) { return s.sayStored(l[0], l[1]) }},
		api.PmShow:   {0, func([]api.Cell) ([]api.Cell, api.Errno) { return s.show() }},
	}
}

// textOperations are those that convert a number to text, from its last digit on.
func (s *State) textOperations() map[int]operation {
	return map[int]operation{
		api.PmBegin:  {0, func([]api.Cell) ([]api.Cell, api.Errno) { return s.begin() }},
		api.PmDigit:  {2, func(l []api.Cell) ([]api.Cell, api.Errno) { return s.convertOne(pairOf(l)) }},
		api.PmDigits: {2, func(l []api.Cell) ([]api.Cell, api.Errno) { return s.convertAll(pairOf(l)) }},
		api.PmHold:   {1, func(l []api.Cell) ([]api.Cell, api.Errno) { return nil, s.hold(character(l[0])) }},
		api.PmSign:   {1, func(l []api.Cell) ([]api.Cell, api.Errno) { return nil, s.holdSign(l[0]) }},
		api.PmEnd:    {2, func([]api.Cell) ([]api.Cell, api.Errno) { return s.end() }},
	}
}

// character is the text of one byte, the lowest one of a cell.
func character(c api.Cell) string { return string([]byte{byte(c)}) }

// blanks are n of them, but no more than the output has room for.
func blanks(n api.Cell) string { return strings.Repeat(" ", int(min(max(n, 0), api.MaxOut))) }

// say outputs a text, and pushes nothing.
func (s *State) say(t string) ([]api.Cell, api.Errno) {
	s.Say(t)
	return nil, api.OK
}

// sayNumber outputs a signed pair in the base, and a blank.
func (s *State) sayNumber(a api.Pair) ([]api.Cell, api.Errno) {
	base, e := s.Base()
	if e != api.OK {
		return nil, e
	}
	return s.say(digit.Signed(a, base) + " ")
}

// sayStored outputs a part of the memory.
func (s *State) sayStored(at, n api.Cell) ([]api.Cell, api.Errno) {
	t, e := s.mem.Text(at, n)
	if e != api.OK {
		return nil, e
	}
	return s.say(t)
}

// show outputs the number of cells, and all cells.
func (s *State) show() ([]api.Cell, api.Errno) {
	base, e := s.Base()
	if e != api.OK {
		return nil, e
	}
	s.Say("<" + strconv.Itoa(s.stack.Depth()) + "> ")
	for _, x := range s.stack.All() {
		s.Say(digit.Signed(pair.Of(x), base) + " ")
	}
	return nil, api.OK
}

// begin begins a number as text.
func (s *State) begin() ([]api.Cell, api.Errno) {
	s.conversion = ""
	return nil, api.OK
}

// hold prepends a text of one byte to the number's.
func (s *State) hold(c string) api.Errno {
	if len(s.conversion) >= api.MaxHold {
		return api.ThHold
	}
	s.conversion = c + s.conversion
	return api.OK
}

// holdSign prepends the sign of n.
func (s *State) holdSign(n api.Cell) api.Errno {
	if n >= 0 {
		return api.OK
	}
	return s.hold("-")
}

// convertOne prepends the last digit of a pair: what is left of the pair.
func (s *State) convertOne(a api.Pair) ([]api.Cell, api.Errno) {
	rest, e := s.holdDigit(a)
	if e != api.OK {
		return nil, e
	}
	return cells(rest)
}

// convertAll prepends all digits of a pair, or none of them where they do not fit: what is left, 0.
func (s *State) convertAll(a api.Pair) ([]api.Cell, api.Errno) {
	before := s.conversion
	for {
		rest, e := s.holdDigit(a)
		if e != api.OK {
			s.conversion = before
			return nil, e
		}
		if rest == (api.Pair{}) {
			return cells(rest)
		}
		a = rest
	}
}

// holdDigit prepends the last digit of a pair in the base: what is left of the pair.
func (s *State) holdDigit(a api.Pair) (api.Pair, api.Errno) {
	base, e := s.Base()
	if e != api.OK {
		return api.Pair{}, e
	}
	rest, c := digit.Step(a, base)
	return rest, s.hold(string([]byte{c}))
}

// end writes the number's text to the memory: its address, and how many bytes it has.
func (s *State) end() ([]api.Cell, api.Errno) {
	n := len(s.conversion)
	at := api.Cell(s.mem.Size() - textSize - n)
	return []api.Cell{at, api.Cell(n)}, s.mem.Write(at, s.conversion)
}
