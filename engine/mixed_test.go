package engine_test

import (
	"math"
	"math/rand"
	"testing"

	"rhyton/api"
)

// maker makes definitions by chance, most of them valid ones.
type maker struct {
	*rand.Rand
	words, locals int
	l             []api.Ins
}

func (r *maker) lay(op uint8, a int) int {
	r.l = append(r.l, api.Ins{Op: op, A: a})
	return len(r.l) - 1
}

// lit lays a cell: the number of a word, a small one, or any.
func (r *maker) lit() {
	x := api.Cell(r.Intn(r.words + 3))
	switch r.Intn(4) {
	case 0:
		x = api.Cell(r.Intn(7) - 3)
	case 1:
		x = []api.Cell{0, 1, -1, 99, math.MinInt64, math.MaxInt64, 3, 3}[r.Intn(8)]
	}
	r.l = append(r.l, api.Ins{Op: opLit, W: x})
}

// plain lays one instruction that only goes on.
func (r *maker) plain() {
	switch n := r.Intn(12); {
	case n < 5:
		r.lit()
	case n == 5:
		r.lay(opDrop, 0)
	case n < 8 && r.locals > 0:
		r.lay([]uint8{opLocal, opTo}[r.Intn(2)], r.Intn(r.locals))
	default:
		r.lay(opCall, 1+r.Intn(r.words))
	}
}

// part lays a part, and what is nested in it.
func (r *maker) part(deep, loops int) {
	for range 1 + r.Intn(4) {
		if deep == 0 || r.Intn(3) > 0 {
			r.plain()
			continue
		}
		r.nested(deep-1, loops)
	}
}

func (r *maker) nested(deep, loops int) {
	begin := len(r.l)
	switch r.Intn(6) {
	case 0, 1: // if, or of
		at := r.lay([]uint8{opZero, opOf}[r.Intn(2)], 0)
		r.part(deep, loops)
		end := r.lay(opJump, 0)
		r.l[at].A = len(r.l)
		r.part(deep, loops)
		r.l[end].A = len(r.l)
	case 2: // until
		r.part(deep, loops)
		r.lay(opZero, begin)
	case 3, 4:
		r.loop(deep, loops)
	case 5:
		if r.Intn(3) == 0 {
			at := r.lay(opZero, 0)
			r.lay(opExit, 0)
			r.l[at].A = len(r.l)
		}
		r.plain()
	}
}

// loop lays a loop that can be left.
func (r *maker) loop(deep, loops int) {
	if r.Intn(2) == 0 {
		r.l = append(r.l, api.Ins{Op: opLit, W: api.Cell(r.Intn(4))}, api.Ins{Op: opLit, W: api.Cell(r.Intn(4))})
	}
	first := r.lay([]uint8{opDo, opQDo}[r.Intn(2)], 0)
	r.part(deep, loops+1)
	leave := -1
	if r.Intn(2) == 0 {
		at := r.lay(opZero, 0)
		leave = r.lay(opLeave, 0)
		r.l[at].A = len(r.l)
	}
	r.lay([]uint8{opLoop, opPlus}[r.Intn(2)], first+1)
	if r.l[first].Op == opQDo {
		r.l[first].A = len(r.l)
	}
	if leave >= 0 {
		r.l[leave].A = len(r.l)
	}
}

func (r *maker) definition(words int) api.Def {
	r.words, r.locals, r.l = words, 0, nil
	if r.Intn(3) == 0 {
		r.locals = 1 + r.Intn(3)
		r.lay(opLocals, r.locals)
	}
	r.part(3, 0)
	r.lay(opExit, 0)
	if r.Intn(20) == 0 {
		r.l[r.Intn(len(r.l))].A += r.Intn(3) - 1
	}
	return api.Def{L: r.l}
}

// anyFrame is a frame of any kind; some of those that catch are as deep as the stack.
func (r *maker) anyFrame(w *watched) api.Frame {
	x := api.Frame{Kind: []int{frCall, frCell, frLoop, frLocals, frCatch, frCatch, frToken, frRecog, 0, 8, -1}[r.Intn(11)]}
	x.A, x.B, x.X, x.Y = r.Intn(6)-1, r.Intn(6)-1, api.Cell(r.Intn(8)-2), api.Cell(r.Intn(8)-2)
	if x.Kind == frCatch && r.Intn(2) == 0 {
		x.A = len(w.m.stack) + r.Intn(3) - 1
	}
	for range r.Intn(4) {
		x.L = append(x.L, api.Cell(r.Intn(9)))
	}
	return x
}

// act does one thing by chance that is not a step.
func (r *maker) act(w *watched) {
	words, defs := len(w.m.words), len(w.m.defs)
	kind := []int{wkColon, wkColon, wkDoes, wkCell, wkDefer, wkPrim, wkCtl, 0}[r.Intn(8)]
	x := api.Word{Kind: kind, N: r.Intn(defs + 3), W: api.Cell(r.Intn(words + 2))}
	if kind == wkCell && r.Intn(4) > 0 {
		x.N = 0
	}
	switch r.Intn(16) {
	case 0, 1:
		w.define(r.definition(words))
	case 2:
		w.add(x)
	case 3:
		w.set(1+r.Intn(words+1), x)
	case 4:
		if r.Intn(4) == 0 {
			w.cut(len(named())+r.Intn(words+2-len(named())), r.Intn(defs+2))
		}
	case 5:
		w.frame(r.anyFrame(w))
	case 6:
		w.popFrame()
	case 7:
		w.open("one two three"[:r.Intn(14)])
	case 8:
		w.seek(r.Intn(20) - 3)
	case 9:
		w.throw(api.Errno(r.Intn(5) - 2))
	case 10:
		w.put(make([]api.Cell, r.Intn(128))...)
	case 11, 12:
		w.put(api.Cell(r.Intn(words+2)), api.Cell(r.Intn(5)))
	default:
		w.exec(1 + r.Intn(words+1))
	}
}

// TestMixed: all promises, long rows of calls by chance on one engine.
func TestMixed(t *testing.T) {
	for seed := range int64(60) {
		r := &maker{Rand: rand.New(rand.NewSource(seed))}
		w := basic(t)
		for range 600 {
			r.act(w)
			w.same("what was done by chance")
			for n := r.Intn(30); n > 0 && w.step().Kind == enRan; n-- {
			}
		}
		w.kept()
	}
}

// TestMixedDefinitions: P15.4 to P15.7, definitions by chance, from their begin to their end, within what catches.
func TestMixedDefinitions(t *testing.T) {
	ends := map[api.Cell]int{}
	for seed := range int64(1500) {
		r := &maker{Rand: rand.New(rand.NewSource(seed))}
		w := basic(t)
		w.open("one two three")
		for range 1 + r.Intn(4) {
			n := w.define(r.definition(len(w.m.words)))
			w.add(api.Word{Kind: []int{wkColon, wkDoes}[r.Intn(2)], N: n, W: api.Cell(r.Intn(30))})
		}
		for range r.Intn(8) {
			w.put(api.Cell(r.Intn(30)))
		}
		depth := len(w.m.stack)
		w.put(api.Cell(len(w.m.words)))
		w.frame(api.Frame{Kind: frCell, X: 7})
		w.exec(number("catch"))
		for range 400 {
			s := w.step()
			if len(w.m.frames) == 1 && w.m.next == 0 && w.m.def == 0 {
				code := w.m.stack[len(w.m.stack)-1]
				ends[code]++
				if code != 0 && len(w.m.stack) != depth+1 {
					t.Errorf("seed %d: after %d the stack is %d deep, want %d", seed, code, len(w.m.stack), depth+1)
				}
				break
			}
			if s.Kind == enHost {
				w.open("four")
				w.seek(2)
			} else if s.Kind != enRan {
				break
			}
		}
		w.throw(1)
	}
	for _, e := range []api.Errno{0, thUnder, thMem, thLoop, thBack, thFrame, thKind} {
		if ends[api.Cell(e)] == 0 {
			t.Errorf("no definition ended by %d: %v", e, ends)
		}
	}
}
