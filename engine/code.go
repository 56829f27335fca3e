package engine

import "rhyton/api"

// opBits is how many bits of a cell tell what an instruction does; those above them are its A.
const opBits = 8

// packed is an instruction: what it does and its A, and its W.
type packed [2]api.Cell

func pack(x api.Ins) packed {
	return packed{api.Cell(x.A)<<opBits | api.Cell(x.Op), x.W}
}

func (p packed) instruction() api.Ins {
	return api.Ins{Op: uint8(p[0]), A: int(p[0] >> opBits), W: p[1]}
}

// code is definitions, one behind the other.
type code struct {
	packed []packed
	ends   []int // where each definition ends, which is where the one behind it begins
}

// position is an instruction, by the number of its definition and its index there. The definition 0 means that there is none.
type position struct{ def, index int }

// defs is how many definitions there are.
func (c *code) defs() int { return len(c.ends) }

// isDef is whether a definition has this number.
func (c *code) isDef(n int) bool { return n >= 1 && n <= len(c.ends) }

// end is where a definition ends. Of 0 it is where the first one begins.
func (c *code) end(n int) int {
	if n == 0 {
		return 0
	}
	return c.ends[n-1]
}

// add adds a definition: its number.
func (c *code) add(d api.Def) int {
	for _, x := range d.L {
		c.packed = append(c.packed, pack(x))
	}
	c.ends = append(c.ends, len(c.packed))
	return len(c.ends)
}

// def is the definition of a number.
func (c *code) def(n int) api.Def {
	part := c.packed[c.end(n-1):c.end(n)]
	l := make([]api.Ins, len(part))
	for i, p := range part {
		l[i] = p.instruction()
	}
	return api.Def{L: l}
}

// at is the instruction at a position; false: it does not exist.
func (c *code) at(p position) (api.Ins, bool) {
	if !c.isDef(p.def) {
		return api.Ins{}, false
	}
	part := c.packed[c.end(p.def-1):c.end(p.def)]
	if p.index < 0 || p.index >= len(part) {
		return api.Ins{}, false
	}
	return part[p.index].instruction(), true
}

// keep removes all definitions but the first n.
func (c *code) keep(n int) {
	c.packed = c.packed[:c.end(n)]
	c.ends = c.ends[:n]
}
