package ins_test

import (
	"math"
	"math/rand"
	"slices"
	"strconv"
	"strings"
	"testing"

	"rhyton/api"
	"rhyton/ins"
)

// The limits, the operations' names and their numbers (from 1 on, in this order) are written out: a wrong name in the package cannot hide behind the same name here.
const (
	names      = "lit call jump zero do qdo loop plus leave of drop locals local to exit"
	operations = 15
	mostCode   = 500
	mostLocals = 16
)

// numberOf is the operation of a name. `?` and a number is that number: the operation is none then.
func numberOf(name string) uint8 {
	if digits, ok := strings.CutPrefix(name, "?"); ok {
		n, err := strconv.ParseUint(digits, 10, 8)
		if err != nil {
			panic(name)
		}
		return uint8(n)
	}
	i := slices.Index(strings.Fields(names), name)
	if i < 0 {
		panic(name)
	}
	return uint8(i + 1)
}

// nameOf is the name of an operation; "": it is none.
func nameOf(op uint8) string {
	if op < 1 || op > operations {
		return ""
	}
	return strings.Fields(names)[op-1]
}

// one is an instruction: n is its W, if it is a lit, and its A otherwise.
func one(name string, n int) api.Ins {
	if name == "lit" {
		return api.Ins{Op: numberOf(name), W: api.Cell(n)}
	}
	return api.Ins{Op: numberOf(name), A: n}
}

// read is the definition of a text: names, and a number behind each of them.
func read(text string) api.Def {
	var d api.Def
	for l := strings.Fields(text); len(l) > 0; l = l[2:] {
		n, err := strconv.Atoi(l[1])
		if err != nil {
			panic(l[1])
		}
		d.L = append(d.L, one(l[0], n))
	}
	return d
}

// sets are the operations of each text of names that was asked for: the models ask some million times.
var sets = map[string]*[256]bool{}

// isOne is whether an operation is one of those that are named.
func isOne(op uint8, named string) bool {
	set := sets[named]
	if set == nil {
		set = new([256]bool)
		for _, name := range strings.Fields(named) {
			set[numberOf(name)] = true
		}
		sets[named] = set
	}
	return set[op]
}

// following is a successor of an instruction, and how many more loops are open before it.
type following struct{ to, more int }

// modelNext are the successors of an instruction, by the chapter's words.
func modelNext(x api.Ins, i int) []following {
	var l []following
	if !isOne(x.Op, "jump leave exit") {
		more := 0
		if isOne(x.Op, "do qdo") {
			more = 1
		}
		if isOne(x.Op, "loop plus") {
			more = -1
		}
		l = append(l, following{i + 1, more})
	}
	if isOne(x.Op, "jump leave zero qdo loop plus of") {
		more := 0
		if isOne(x.Op, "leave") {
			more = -1
		}
		l = append(l, following{x.A, more})
	}
	return l
}

// modelLoops goes over all instructions again and again, until none gets a number any more.
func modelLoops(d api.Def) ([]int, bool) {
	if len(d.L) == 0 {
		return nil, false
	}
	numbers := make([]int, len(d.L))
	for i := range numbers {
		numbers[i] = -1
	}
	numbers[0] = 0
	for again := true; again; {
		again = false
		for i, x := range d.L {
			if numbers[i] < 0 {
				continue
			}
			for _, f := range modelNext(x, i) {
				n := numbers[i] + f.more
				if n < 0 || f.to < 0 || f.to >= len(d.L) {
					return nil, false
				}
				if numbers[f.to] >= 0 && numbers[f.to] != n {
					return nil, false
				}
				if numbers[f.to] < 0 {
					numbers[f.to], again = n, true
				}
			}
		}
	}
	return numbers, true
}

// modelA is whether A may be what it is, by the chapter's words.
func modelA(d api.Def, i, words int) bool {
	x, locals := d.L[i], 0
	if isOne(d.L[0].Op, "locals") {
		locals = d.L[0].A
	}
	switch {
	case isOne(x.Op, "call"):
		return 1 <= x.A && x.A <= words
	case isOne(x.Op, "jump zero qdo loop plus leave of"):
		return 0 <= x.A && x.A < len(d.L)
	case isOne(x.Op, "locals"):
		return 1 <= x.A && x.A <= mostLocals && i == 0
	case isOne(x.Op, "local to"):
		return 0 <= x.A && x.A < locals
	}
	return x.A == 0
}

func modelMay(d api.Def, words int) bool {
	loops, ok := modelLoops(d)
	if !ok || len(d.L) > mostCode {
		return false
	}
	last := len(d.L) - 1
	if !isOne(d.L[last].Op, "jump exit") {
		return false
	}
	if isOne(d.L[last].Op, "exit") && loops[last] > 0 {
		return false
	}
	for i, x := range d.L {
		if x.Op < 1 || x.Op > operations || !modelA(d, i, words) {
			return false
		}
		if !isOne(x.Op, "lit") && x.W != 0 {
			return false
		}
	}
	return true
}

func checkLoops(t *testing.T, d api.Def, want []int, ok bool) {
	t.Helper()
	if got, is := ins.Loops(d); !slices.Equal(got, want) || is != ok {
		t.Fatalf("Loops(%.2000v) = %v, %t, want %v, %t", d, got, is, want, ok)
	}
}

func checkMay(t *testing.T, d api.Def, words int, want bool) {
	t.Helper()
	if got := ins.May(d, words); got != want {
		t.Fatalf("May(%.2000v, %d) = %t, want %t", d, words, got, want)
	}
}

func checkText(t *testing.T, d api.Def, want string) {
	t.Helper()
	if got := ins.Text(d); got != want {
		t.Fatalf("Text(%.2000v) = %.2000q, want %.2000q", d, got, want)
	}
}

// checkModels holds Loops and May of a definition against the models.
func checkModels(t *testing.T, d api.Def, words int) {
	t.Helper()
	want, ok := modelLoops(d)
	checkLoops(t, d, want, ok)
	checkMay(t, d, words, modelMay(d, words))
}

// rows calls check with each row of n of these instructions. The row is the same slice each time.
func rows(l []api.Ins, n int, check func(api.Def)) {
	d := api.Def{L: make([]api.Ins, n)}
	var fill func(i int)
	fill = func(i int) {
		if i == n {
			check(d)
			return
		}
		for _, x := range l {
			d.L[i] = x
			fill(i + 1)
		}
	}
	fill(0)
}

// nearby are instructions of each operation, and of some that are none, with all indices of a row of n and those beside them.
func nearby(n int) []api.Ins {
	var l []api.Ins
	for op := range uint8(operations + 3) {
		for a := -1; a <= n; a++ {
			l = append(l, api.Ins{Op: op, A: a})
		}
	}
	return l
}

// far are numbers of which none may be taken for a small one.
func far() []int {
	return []int{
		math.MinInt, math.MinInt + 1, -1 << 32, -1<<32 + 1, -1 << 16, -256, -255, -2, 256, 257, 1 << 16, 1<<16 + 1,
		1<<31 - 1, 1 << 31, 1 << 32, 1<<32 + 1, 1<<32 + 2, math.MaxInt - 1, math.MaxInt,
	}
}

// TestExample: the chapter's example.
func TestExample(t *testing.T) {
	d := api.Def{L: []api.Ins{{Op: api.OpLit, W: 5}, {Op: api.OpExit}}}
	checkMay(t, d, 0, true)
	checkText(t, d, "lit 5 exit 0")
}

// TestP101Loops: P10.1, plain cases written by hand.
func TestP101Loops(t *testing.T) {
	for _, x := range []struct {
		text string
		want []int
	}{
		{"exit 0", []int{0}},
		{"exit 0 drop 0 exit 0", []int{0, -1, -1}},
		{"jump 0", []int{0}},
		{"jump 2 exit 0 jump 1", []int{0, 0, 0}},
		{"jump 2 drop 0 exit 0", []int{0, -1, 0}},
		{"zero 3 lit 1 jump 4 lit 2 exit 0", []int{0, 0, 0, 0, 0}},
		{"zero 1 exit 0", []int{0, 0}},
		{"drop 0 zero 0 exit 0", []int{0, 0, 0}},
		{"do 0 loop 1 exit 0", []int{0, 1, 0}},
		{"do 0 plus 1 exit 0", []int{0, 1, 0}},
		{"do 0 call 1 drop 0 loop 1 exit 0", []int{0, 1, 1, 1, 0}},
		{"do 0 exit 0", []int{0, 1}},
		{"do 0 jump 1", []int{0, 1}},
		{"do 0 do 0 do 0 exit 0", []int{0, 1, 2, 3}},
		{"do 0 do 0 loop 2 loop 1 exit 0", []int{0, 1, 2, 1, 0}},
		{"qdo 2 loop 1 exit 0", []int{0, 1, 0}},
		{"qdo 3 drop 0 plus 1 exit 0", []int{0, 1, 1, 0}},
		{"qdo 0 loop 1 exit 0", []int{0, 1, 0}},
		{"do 0 qdo 3 loop 2 loop 1 exit 0", []int{0, 1, 2, 1, 0}},
		{"do 0 leave 3 loop 1 exit 0", []int{0, 1, -1, 0}},
		{"do 0 zero 3 leave 4 loop 1 exit 0", []int{0, 1, 1, 1, 0}},
		{"do 0 do 0 zero 4 leave 5 loop 2 loop 1 exit 0", []int{0, 1, 2, 2, 2, 1, 0}},
		{"do 0 do 0 leave 4 exit 0 exit 0", []int{0, 1, 2, -1, 1}},
		{"do 0 leave 0", []int{0, 1}},
		{"lit 7 of 4 drop 0 jump 5 drop 0 exit 0", []int{0, 0, 0, 0, 0, 0}},
		{"locals 2 local 0 to 1 exit 0", []int{0, 0, 0, 0}},
		{"exit 0 loop -1 leave 99 zero 9 exit 0", []int{0, -1, -1, -1, -1}},
		{"?0 5 ?16 -5 ?99 7 ?255 0 exit 0", []int{0, 0, 0, 0, 0}},
		{"call -5 local -5 to 99 locals 99 lit 0 drop 77 do 33 exit -1", []int{0, 0, 0, 0, 0, 0, 0, 1}},
	} {
		checkLoops(t, read(x.text), x.want, true)
	}
}

// TestP101None: P10.1, each way in which there are no numbers, by hand.
func TestP101None(t *testing.T) {
	checkLoops(t, api.Def{}, nil, false)
	checkLoops(t, api.Def{L: []api.Ins{}}, nil, false)
	for _, text := range []string{
		"lit 1", "drop 0", "call 1", "do 0", "locals 1", "local 0", "to 0", "?0 0", "?16 0", "?255 0", // behind the end
		"jump 1", "jump -1", "zero 0", "zero 2 exit 0", "zero -1 exit 0", "of 2 exit 0", "of -1 exit 0", "of 0",
		"qdo 3 loop 1 exit 0", "qdo -1 loop 1 exit 0", "do 0 loop 3 exit 0", "do 0 loop -1 exit 0", "do 0 plus 3 exit 0", "do 0 plus -1 exit 0",
		"do 0 leave 2", "do 0 leave -1", "do 0 loop 1", "do 0 plus 1", "do 0 qdo 0",
		"do 0 loop 0 exit 0", "do 0 plus 0 exit 0", "do 0 loop 2 exit 0", "do 0 jump 0", "do 0 drop 0 jump 0", // two numbers
		"qdo 1 exit 0", "qdo 1 loop 1 exit 0", "qdo 2 drop 0 loop 1 exit 0", "do 0 zero 3 loop 1 exit 0",
		"zero 2 do 0 exit 0", "zero 2 do 0 loop 2 exit 0", "do 0 zero 4 leave 4 loop 1 exit 0", "do 0 of 3 loop 1 exit 0",
		"do 0 leave 1", "do 0 zero 3 leave 3 loop 1 exit 0",
		"loop 1 exit 0", "plus 1 exit 0", "leave 1 exit 0", "loop 0 exit 0", "leave 0", "do 0 loop 1 loop 1 exit 0", "do 0 leave 2 leave 3 exit 0", // fewer than none
		"do 0 leave 2 plus 2 exit 0", "zero 2 exit 0 leave 1", "of 2 exit 0 loop 2 exit 0",
	} {
		checkLoops(t, read(text), nil, false)
	}
}

// TestP101Rows: P10.1 and P10.2, all rows of up to three instructions, with all indices and those beside them.
func TestP101Rows(t *testing.T) {
	for n := range 4 {
		rows(nearby(n), n, func(d api.Def) { checkModels(t, d, 2) })
	}
}

// TestP101Paths: P10.1 and P10.2, all rows of four of those instructions that do not just go on.
func TestP101Paths(t *testing.T) {
	l := read("drop 0 do 0 exit 0").L
	for _, name := range strings.Fields("jump zero qdo loop leave") {
		for a := range 5 {
			l = append(l, one(name, a))
		}
	}
	rows(l, 4, func(d api.Def) { checkModels(t, d, 0) })
}

// TestP101Far: P10.1 and P10.2, targets that are far from each index, where they are reached and where they are not.
func TestP101Far(t *testing.T) {
	for op := range uint8(operations + 1) {
		goesTo := isOne(op, "jump zero qdo loop plus leave of")
		for _, a := range far() {
			x := api.Ins{Op: op, A: a}
			d := api.Def{L: []api.Ins{{Op: api.OpDo}, x, {Op: api.OpDo}, {Op: api.OpJump, A: 3}}}
			checkModels(t, d, 600)
			if _, ok := ins.Loops(d); ok == goesTo {
				t.Errorf("Loops(%v) = _, %t", d, ok)
			}
			d = api.Def{L: []api.Ins{{Op: api.OpJump, A: 2}, x, {Op: api.OpExit}}}
			checkModels(t, d, 600)
			checkLoops(t, d, []int{0, -1, 0}, true)
			checkModels(t, api.Def{L: []api.Ins{x}}, 600)
		}
	}
}

// chain is n jumps, each one to another index, all of which are reached; the last one ends.
func chain(n int, r *rand.Rand) api.Def {
	order := r.Perm(n - 1)
	at := slices.Index(order, 0)
	order[0], order[at] = order[at], order[0]
	d := api.Def{L: make([]api.Ins, n)}
	for i, from := range order {
		to := n - 1
		if i+1 < len(order) {
			to = order[i+1]
		}
		d.L[from] = api.Ins{Op: api.OpJump, A: to}
	}
	d.L[n-1] = api.Ins{Op: api.OpExit}
	return d
}

// nest is n loops, each one within the one before it.
func nest(n int) api.Def {
	var l []api.Ins
	for range n {
		l = append(l, api.Ins{Op: api.OpDo})
	}
	for i := range n {
		l = append(l, api.Ins{Op: api.OpLoop, A: n - i})
	}
	return api.Def{L: append(l, api.Ins{Op: api.OpExit})}
}

// TestP101Long: P10.1, many more instructions than a valid definition has.
func TestP101Long(t *testing.T) {
	const many = 100_000
	d := chain(many, rand.New(rand.NewSource(1)))
	checkLoops(t, d, make([]int, many), true)
	checkMay(t, d, 0, false)
	d = nest(many)
	want := make([]int, 2*many+1)
	for i := range want {
		want[i] = min(i, 2*many-i)
	}
	checkLoops(t, d, want, true)
	checkMay(t, d, 0, false)
	d.L[many].A-- // the innermost loop then begins a part too early
	checkLoops(t, d, nil, false)
	d = api.Def{L: slices.Repeat(read("zero 0").L, many)}
	checkLoops(t, d, nil, false)
	d.L[many-1] = api.Ins{Op: api.OpExit}
	checkLoops(t, d, make([]int, many), true)
}

// TestP102May: P10.2, plain cases written by hand.
func TestP102May(t *testing.T) {
	for _, text := range []string{
		"exit 0", "jump 0", "lit 0 exit 0", "lit -9223372036854775808 exit 0", "lit 9223372036854775807 exit 0",
		"drop 0 exit 0", "call 1 exit 0", "call 3 exit 0", "zero 2 exit 0 exit 0", "of 2 drop 0 exit 0", "exit 0 exit 0",
		"do 0 loop 1 exit 0", "do 0 lit 1 plus 1 exit 0", "qdo 2 loop 1 exit 0", "do 0 leave 3 loop 1 exit 0",
		"do 0 zero 3 exit 0 loop 1 exit 0",         // within a loop, but not at the end
		"do 0 jump 1", "do 0 jump 3 exit 0 jump 2", // a jump may be the last one within a loop
		"do 0 jump 1 exit 0", // the last one is not reachable
		"exit 0 do 0 exit 0", "exit 0 loop 0 exit 0", "exit 0 leave 0 exit 0",
		"locals 1 local 0 exit 0", "locals 1 to 0 exit 0", "locals 16 local 15 to 15 local 0 to 0 exit 0", "locals 2 exit 0 local 1 exit 0",
		"locals 3 jump 0",
	} {
		checkMay(t, read(text), 3, true)
	}
}

// TestP102Not: P10.2, definitions of which one thing is wrong, by hand.
func TestP102Not(t *testing.T) {
	checkMay(t, api.Def{}, 3, false)
	checkMay(t, api.Def{L: []api.Ins{}}, 3, false)
	for _, text := range []string{
		"lit 1", "drop 0", "zero 0", "exit 0 drop 0", "exit 0 leave 0", "exit 0 zero 0", "exit 0 loop 0", "exit 0 ?16 0", // the last one
		"do 0 exit 0", "qdo 0 exit 0", "do 0 do 0 loop 2 exit 0", "do 0 leave 3 exit 0 do 0 exit 0", // a loop is open before it
		"loop 1 exit 0", "leave 1 exit 0", "jump 1", "do 0 loop 0 exit 0", // no numbers
		"?0 0 exit 0", "?16 0 exit 0", "?99 0 exit 0", "?255 0 exit 0", "exit 0 ?0 0 exit 0", "exit 0 ?16 0 exit 0", "exit 0 ?255 0 exit 0",
		"call 0 exit 0", "call 4 exit 0", "call -1 exit 0", "exit 0 call 0 exit 0", "exit 0 call 4 exit 0",
		"exit 0 jump 3 exit 0", "exit 0 jump -1 exit 0", "exit 0 zero 3 exit 0", "exit 0 zero -1 exit 0", "exit 0 qdo 3 exit 0", "exit 0 loop 3 exit 0",
		"exit 0 plus 3 exit 0", "exit 0 leave 3 exit 0", "exit 0 of 3 exit 0", "exit 0 jump 2",
		"locals 0 exit 0", "locals 17 exit 0", "locals -1 exit 0", "drop 0 locals 1 exit 0", "locals 1 locals 1 exit 0", "exit 0 locals 1 exit 0",
		"local 0 exit 0", "to 0 exit 0", "exit 0 local 0 exit 0", "locals 1 local 1 exit 0", "locals 1 to 1 exit 0", "locals 1 local -1 exit 0", "locals 1 to -1 exit 0",
		"locals 16 local 16 exit 0", "locals 17 local 16 exit 0", "locals 0 local 0 exit 0", "locals 2 exit 0 to 2 exit 0",
		"drop 1 exit 0", "drop -1 exit 0", "do 1 loop 1 exit 0", "exit 1", "exit -1", "exit 0 drop 1 exit 0", "exit 0 do 1 exit 0", "exit 1 exit 0",
	} {
		checkMay(t, read(text), 3, false)
	}
}

// TestP102A: P10.2, each operation with all small A and some far ones, where it is reached and where it is not, with and without locals.
func TestP102A(t *testing.T) {
	numbers := far()
	for a := -3; a <= 40; a++ {
		numbers = append(numbers, a)
	}
	ops := []uint8{17, 18, 31, 32, 99, 127, 128, 129, 254, 255}
	for op := range uint8(operations + 2) {
		ops = append(ops, op)
	}
	for _, op := range ops {
		for _, a := range numbers {
			x := api.Ins{Op: op, A: a}
			for _, first := range []api.Ins{{Op: api.OpDrop}, one("locals", 1), one("locals", 9), one("locals", 16), one("locals", 17)} {
				for _, words := range []int{0, 1, 20} {
					checkModels(t, api.Def{L: []api.Ins{first, x, {Op: api.OpExit}}}, words)
					checkModels(t, api.Def{L: []api.Ins{first, {Op: api.OpJump, A: 3}, x, {Op: api.OpExit}}}, words)
					checkModels(t, api.Def{L: []api.Ins{first, {Op: api.OpDo}, x, {Op: api.OpJump, A: 3}}}, words)
				}
			}
			checkModels(t, api.Def{L: []api.Ins{x, {Op: api.OpExit}}}, 20)
			checkModels(t, api.Def{L: []api.Ins{x}}, 20)
		}
	}
}

// TestP102Lit: P10.2, a lit has any W, and no A.
func TestP102Lit(t *testing.T) {
	for _, w := range []api.Cell{math.MinInt64, -1 << 32, -1, 0, 1, 255, 1 << 32, math.MaxInt64} {
		for _, a := range append(far(), -1, 0, 1, 2) {
			x := api.Ins{Op: api.OpLit, A: a, W: w}
			checkMay(t, api.Def{L: []api.Ins{x, {Op: api.OpExit}}}, 3, a == 0)
			checkMay(t, api.Def{L: []api.Ins{{Op: api.OpExit}, x, {Op: api.OpExit}}}, 3, a == 0)
		}
	}
}

// TestP102W: P10.2, nothing but a lit has a W.
func TestP102W(t *testing.T) {
	d := read("locals 1 lit 1 call 1 zero 12 do 0 zero 7 leave 8 loop 5 qdo 11 drop 0 plus 9 of 12 local 0 to 0 jump 15 exit 0")
	checkMay(t, d, 1, true)
	seen := map[uint8]bool{}
	for i, x := range d.L {
		seen[x.Op] = true
		for _, w := range []api.Cell{math.MinInt64, -1 << 32, -1, 1, 1 << 8, 1 << 16, 1 << 32, math.MaxInt64} {
			d.L[i].W = w
			checkMay(t, d, 1, x.Op == api.OpLit)
			checkModels(t, d, 1)
		}
		d.L[i] = x
	}
	if len(seen) != operations {
		t.Errorf("only %d operations are held", len(seen))
	}
}

// TestP102Words: P10.2, which words may be called, with any int of them.
func TestP102Words(t *testing.T) {
	for _, words := range append(far(), -1, 0, 1, 2, 599, 600, 601) {
		for _, a := range append(far(), -1, 0, 1, 2, 3, 599, 600, 601, words) {
			want := 0 < a && a <= words
			checkMay(t, api.Def{L: []api.Ins{{Op: api.OpCall, A: a}, {Op: api.OpExit}}}, words, want)
			checkMay(t, api.Def{L: []api.Ins{{Op: api.OpExit}, {Op: api.OpCall, A: a}, {Op: api.OpExit}}}, words, want)
		}
		checkMay(t, read("exit 0"), words, true)
	}
}

// TestP102Locals: P10.2, each number of locals, and each local of them.
func TestP102Locals(t *testing.T) {
	for n := -2; n <= 20; n++ {
		checkMay(t, api.Def{L: []api.Ins{one("locals", n), one("exit", 0)}}, 0, 1 <= n && n <= 16)
		for a := -2; a <= 20; a++ {
			want := 1 <= n && n <= 16 && 0 <= a && a < n
			for _, name := range []string{"local", "to"} {
				checkMay(t, api.Def{L: []api.Ins{one("locals", n), one(name, a), one("exit", 0)}}, 0, want)
				checkMay(t, api.Def{L: []api.Ins{one("locals", n), one("exit", 0), one(name, a), one("exit", 0)}}, 0, want)
				checkMay(t, api.Def{L: []api.Ins{one("drop", 0), one(name, a), one("exit", 0)}}, 0, false)
				checkMay(t, api.Def{L: []api.Ins{one(name, a), one("exit", 0)}}, 0, false)
			}
		}
	}
}

// TestP102Many: P10.2, how many instructions there may be.
func TestP102Many(t *testing.T) {
	r := rand.New(rand.NewSource(2))
	for _, n := range []int{2, 3, 100, 255, 256, 257, 498, 499, 500, 501, 502, 512, 756, 1000, 1 << 16, 1<<16 + 1} {
		checkMay(t, chain(n, r), 0, n <= mostCode)
		drops := slices.Repeat(read("drop 0").L, n)
		drops[n-1] = api.Ins{Op: api.OpExit}
		checkMay(t, api.Def{L: drops}, 0, n <= mostCode)
		drops[n-1] = api.Ins{Op: api.OpJump, A: n - 1}
		checkMay(t, api.Def{L: drops}, 0, n <= mostCode)
		drops[n-1] = api.Ins{Op: api.OpJump, A: n}
		checkMay(t, api.Def{L: drops}, 0, false)
	}
	checkMay(t, nest(249), 0, true)
	checkMay(t, nest(250), 0, false)
}

// TestP103Text: P10.3, plain cases written by hand.
func TestP103Text(t *testing.T) {
	checkText(t, api.Def{}, "")
	checkText(t, api.Def{L: []api.Ins{}}, "")
	checkText(t, api.Def{L: []api.Ins{{}}}, "? 0")
	checkText(t, api.Def{L: []api.Ins{
		{Op: api.OpLit, A: 7, W: 1}, {Op: api.OpCall, A: 2, W: 7}, {Op: api.OpJump, A: 3, W: 7}, {Op: api.OpZero, A: 4, W: 7}, {Op: api.OpDo, A: 5, W: 7},
		{Op: api.OpQDo, A: 6, W: 7}, {Op: api.OpLoop, A: 7}, {Op: api.OpPlus, A: 8}, {Op: api.OpLeave, A: 9}, {Op: api.OpOf, A: 10},
		{Op: api.OpDrop, A: 11}, {Op: api.OpLocals, A: 12}, {Op: api.OpLocal, A: 13}, {Op: api.OpTo, A: 14}, {Op: api.OpExit, A: 15},
		{Op: api.OpLast, A: 16, W: 7}, {Op: 255, A: -17, W: 7}, {Op: 0, A: 18, W: 7},
	}}, "lit 1 call 2 jump 3 zero 4 do 5 qdo 6 loop 7 plus 8 leave 9 of 10 drop 11 locals 12 local 13 to 14 exit 15 ? 16 ? -17 ? 18")
}

// TestP103Each: P10.3, each operation with numbers of all lengths, of either sign.
func TestP103Each(t *testing.T) {
	numbers := []int64{math.MinInt64, math.MinInt64 + 1, math.MaxInt64 - 1, math.MaxInt64, 0}
	for n := int64(1); n < math.MaxInt64/10; n *= 10 {
		numbers = append(numbers, n-1, n, n+1, 2*n, -n, 1-n, -5*n)
	}
	for op := range 256 {
		name := nameOf(uint8(op))
		if name == "" {
			name = "?"
		}
		for _, n := range numbers {
			want := name + " " + strconv.FormatInt(n, 10)
			x := api.Ins{Op: uint8(op), A: int(n), W: 77}
			if name == "lit" {
				x = api.Ins{Op: uint8(op), A: 77, W: api.Cell(n)}
			}
			checkText(t, api.Def{L: []api.Ins{x}}, want)
			checkText(t, api.Def{L: []api.Ins{x, {Op: api.OpExit}, x}}, want+" exit 0 "+want)
		}
	}
}

// TestP103Long: P10.3, more instructions than a valid definition has.
func TestP103Long(t *testing.T) {
	const many = 50_000
	var want []string
	var d api.Def
	for i := range many {
		op := uint8(i%operations + 1)
		d.L = append(d.L, one(nameOf(op), i))
		want = append(want, nameOf(op)+" "+strconv.Itoa(i))
	}
	checkText(t, d, strings.Join(want, " "))
}

// maker makes definitions of parts, one within the other, at random: they are valid.
type maker struct {
	*rand.Rand
	l      []api.Ins
	locals int
	leaves [][]int // of each loop that is open
}

func (m *maker) lay(name string, n int) int {
	m.l = append(m.l, one(name, n))
	return len(m.l) - 1
}

// close lets an instruction go to what is laid next.
func (m *maker) close(l ...int) {
	for _, i := range l {
		m.l[i].A = len(m.l)
	}
}

func (m *maker) plain() {
	switch n := m.Intn(5); {
	case n == 0:
		m.lay("call", 1+m.Intn(5))
	case n == 1 && m.locals > 0:
		m.lay([]string{"local", "to"}[m.Intn(2)], m.Intn(m.locals))
	case n == 2:
		m.lay("drop", 0)
	default:
		m.lay("lit", m.Intn(9)-4)
	}
}

func (m *maker) loop(depth int) {
	var leaves []int
	if m.Intn(2) == 0 {
		m.lay("do", 0)
	} else {
		leaves = append(leaves, m.lay("qdo", 0))
	}
	begin := len(m.l)
	m.leaves = append(m.leaves, leaves)
	m.body(depth)
	m.lay([]string{"loop", "plus"}[m.Intn(2)], begin)
	last := len(m.leaves) - 1
	m.close(m.leaves[last]...)
	m.leaves = m.leaves[:last]
}

func (m *maker) choice(depth int) {
	var ends []int
	for range 1 + m.Intn(2) {
		gap := m.lay("of", 0)
		m.body(depth)
		ends = append(ends, m.lay("jump", 0))
		m.close(gap)
	}
	m.lay("drop", 0)
	m.close(ends...)
}

func (m *maker) body(depth int) {
	for range m.Intn(3) {
		m.part(depth)
	}
}

func (m *maker) part(depth int) {
	if depth == 0 {
		m.plain()
		return
	}
	begin := len(m.l)
	switch m.Intn(8) {
	case 0: // if, with else
		gap := m.lay("zero", 0)
		m.body(depth - 1)
		if m.Intn(2) == 0 {
			other := m.lay("jump", 0)
			m.close(gap)
			gap = other
			m.body(depth - 1)
		}
		m.close(gap)
	case 1: // until
		m.body(depth - 1)
		m.lay("zero", begin)
	case 2: // while
		m.body(depth - 1)
		gap := m.lay("zero", 0)
		m.body(depth - 1)
		m.lay("jump", begin)
		m.close(gap)
	case 3:
		m.choice(depth - 1)
	case 4:
		if last := len(m.leaves) - 1; last >= 0 {
			m.leaves[last] = append(m.leaves[last], m.lay("leave", 0))
		}
	case 5:
		m.plain()
	default:
		m.loop(depth - 1)
	}
}

// made is a valid definition that calls up to 5 words.
func made(r *rand.Rand) api.Def {
	for {
		m := &maker{Rand: r}
		if m.Intn(2) == 0 {
			m.locals = 1 + m.Intn(mostLocals)
			m.lay("locals", m.locals)
		}
		for range 1 + m.Intn(4) {
			m.part(4)
		}
		m.lay("exit", 0)
		if len(m.l) <= mostCode {
			return api.Def{L: m.l}
		}
	}
}

// TestP102Made: P10.1 and P10.2, definitions of parts are valid; with one instruction changed, some are.
func TestP102Made(t *testing.T) {
	r := rand.New(rand.NewSource(3))
	for range 2000 {
		d := made(r)
		checkMay(t, d, 5, true)
		checkModels(t, d, 5)
		for range 20 {
			i := r.Intn(len(d.L))
			kept := d.L[i]
			switch r.Intn(4) {
			case 0:
				d.L[i].Op = uint8(r.Intn(operations + 2))
			case 1:
				d.L[i].A = r.Intn(len(d.L)+2) - 1
			case 2:
				d.L[i] = d.L[r.Intn(len(d.L))]
			case 3:
				d.L[i] = api.Ins{Op: uint8(r.Intn(operations + 2)), A: r.Intn(len(d.L)+2) - 1}
			}
			checkModels(t, d, 4)
			d.L[i] = kept
		}
	}
}

// TestP104Paths: P10.4, on each path through a valid definition as many loops are open before an instruction as Loops tells, and no path leads out of it.
func TestP104Paths(t *testing.T) {
	r := rand.New(rand.NewSource(4))
	for range 1000 {
		d := made(r)
		loops, ok := ins.Loops(d)
		if !ok || len(loops) != len(d.L) {
			t.Fatalf("Loops(%v) = %v, %t", d, loops, ok)
		}
		for range 20 {
			walk(t, d, loops, r)
		}
	}
}

// walk goes from instruction to instruction as one who executes them would, and counts the loops that are open.
func walk(t *testing.T, d api.Def, loops []int, r *rand.Rand) {
	t.Helper()
	i, open := 0, 0
	for range 300 {
		if i >= len(d.L) || open != loops[i] {
			t.Fatalf("of %v, at %d, %d loops are open; Loops = %v", d, i, open, loops)
		}
		x, goes := d.L[i], r.Intn(2) == 0
		i++
		switch {
		case isOne(x.Op, "exit"):
			return
		case isOne(x.Op, "jump"), isOne(x.Op, "zero of") && goes:
			i = x.A
		case isOne(x.Op, "qdo") && goes:
			i = x.A
		case isOne(x.Op, "do qdo"):
			open++
		case isOne(x.Op, "loop plus") && goes:
			i = x.A
		case isOne(x.Op, "loop plus"):
			open--
		case isOne(x.Op, "leave"):
			i = x.A
			open--
		}
	}
}

// TestPure: the calls change nothing that they are given, read nothing behind its end, and answer the same again, in new memory.
func TestPure(t *testing.T) {
	r := rand.New(rand.NewSource(5))
	for range 300 {
		kept := made(r)
		n := len(kept.L)
		long := append(slices.Clone(kept.L), read("exit 0 locals 3 ?0 0 jump -1").L...)
		behind := slices.Clone(long[n:])
		d := api.Def{L: long[:n]}
		text := ins.Text(kept)
		want, _ := modelLoops(kept)
		for range 3 {
			got, ok := ins.Loops(d)
			if !ok || !slices.Equal(got, want) {
				t.Fatalf("Loops(%v) = %v, %t, want %v", d, got, ok, want)
			}
			got = got[:cap(got)]
			for i := range got {
				got[i] = -7
			}
			checkMay(t, d, 5, true)
			checkMay(t, api.Def{L: long}, 5, false)
			checkMay(t, api.Def{L: long[:n-1]}, 5, modelMay(api.Def{L: kept.L[:n-1]}, 5))
			checkText(t, d, text)
			if !slices.Equal(d.L, kept.L) || !slices.Equal(long[n:], behind) {
				t.Fatalf("of %v, %v is left", kept, long)
			}
		}
	}
}
