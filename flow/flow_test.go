package flow_test

import (
	"math"
	"math/rand"
	"slices"
	"strconv"
	"strings"
	"testing"

	"rhyton/api"
	"rhyton/flow"
	"rhyton/ins"
)

// The errors, the limits, the parts' names and their numbers (from 1 on, in this order) are written out: a wrong name in the package cannot hide behind the same name here.
const (
	ok      = api.Errno(0)
	errArg  = api.Errno(1)
	errNone = api.Errno(2)
	thRoom  = api.Errno(-8)
	thCtrl  = api.Errno(-22)

	most     = 499 // instructions
	mostOpen = 32  // parts

	names = "if else then begin while repeat until again do qdo loop plus leave case of endof endcase"
	parts = 17
)

// partOf is the number of a part.
func partOf(name string) int {
	i := slices.Index(strings.Fields(names), name)
	if i < 0 {
		panic(name)
	}
	return i + 1
}

// lit is an instruction that a Put lays in most tests.
func lit(n int) api.Ins { return api.Ins{Op: api.OpLit, W: api.Cell(n)} }

// step does a part, by its name, or puts the lit of a number.
func step(b *flow.Builder, word string) api.Errno {
	if n, err := strconv.Atoi(word); err == nil {
		return b.Put(lit(n))
	}
	return b.Do(partOf(word))
}

// built is a builder that has done what a text says.
func built(t *testing.T, text string) *flow.Builder {
	t.Helper()
	b := flow.New()
	steps(t, b, text)
	return b
}

func steps(t *testing.T, b *flow.Builder, text string) {
	t.Helper()
	for i, word := range strings.Fields(text) {
		if e := step(b, word); e != ok {
			t.Fatalf("%s of %.200q, at %d: %d", word, text, i, e)
		}
	}
}

// many is a text so many times.
func many(text string, n int) string { return strings.Repeat(text+" ", n) }

func checkError(t *testing.T, what string, got, want api.Errno) {
	t.Helper()
	if got != want {
		t.Fatalf("%.300s: %d, want %d", what, got, want)
	}
}

func checkSize(t *testing.T, b *flow.Builder, code, open int) {
	t.Helper()
	if b.Len() != code || b.Open() != open {
		t.Fatalf("Len and Open are %d and %d, want %d and %d", b.Len(), b.Open(), code, open)
	}
}

// checkEnd ends a definition, which is this text then.
func checkEnd(t *testing.T, b *flow.Builder, want string) {
	t.Helper()
	d, e := b.End()
	if e != ok || ins.Text(d) != want {
		t.Fatalf("End = %.2000q, %d, want %.2000q", ins.Text(d), e, want)
	}
	checkSize(t, b, 0, 0)
}

// checkNoEnd is refused an end.
func checkNoEnd(t *testing.T, b *flow.Builder) {
	t.Helper()
	if d, e := b.End(); e != thCtrl || d.L != nil {
		t.Fatalf("End = %v, %d, want nothing, %d", d, e, thCtrl)
	}
}

func checkCode(t *testing.T, what string, got, want []api.Ins) {
	t.Helper()
	if !slices.Equal(got, want) {
		t.Fatalf("%.1000s:\n%.3000s\nwant\n%.3000s", what, ins.Text(api.Def{L: got}), ins.Text(api.Def{L: want}))
	}
}

// wrongParts are numbers of no part.
func wrongParts() []int {
	l := []int{
		math.MinInt, math.MinInt + 1, -1 << 32, -1<<32 + 1, -255, -17, -2, -1, 0, 18, 19, 32, 33, 64, 65, 128, 129,
		255, 256, 257, 273, 1 << 16, 1<<16 + 1, 1<<31 - 1, 1 << 31, 1 << 32, 1<<32 + 1, 1<<32 + 17, math.MaxInt - 1, math.MaxInt,
	}
	for n := parts + 1; n < 60; n++ {
		l = append(l, n, -n)
	}
	return l
}

// TestExample: the chapter's examples.
func TestExample(t *testing.T) {
	b := flow.New()
	checkError(t, "lit", b.Put(api.Ins{Op: api.OpLit}), ok)
	checkError(t, "if", b.Do(api.FlIf), ok)
	checkError(t, "drop", b.Put(api.Ins{Op: api.OpDrop}), ok)
	checkError(t, "then", b.Do(api.FlThen), ok)
	d, e := b.End()
	checkError(t, "end", e, ok)
	checkCode(t, "example", d.L, []api.Ins{{Op: api.OpLit}, {Op: api.OpZero, A: 3}, {Op: api.OpDrop}, {Op: api.OpExit}})
	checkError(t, "then", flow.New().Do(api.FlThen), thCtrl)
}

// TestNumbers: the numbers of the parts are those that the tests write.
func TestNumbers(t *testing.T) {
	for i, n := range []int{
		api.FlIf, api.FlElse, api.FlThen, api.FlBegin, api.FlWhile, api.FlRepeat, api.FlUntil, api.FlAgain, api.FlDo,
		api.FlQDo, api.FlLoop, api.FlPlus, api.FlLeave, api.FlCase, api.FlOf, api.FlEndOf, api.FlEndCase,
	} {
		if n != i+1 || partOf(strings.Fields(names)[i]) != n {
			t.Errorf("part %d has the number %d", i+1, n)
		}
	}
}

// TestP111New: P11.1, a new builder has nothing, and no two share anything.
func TestP111New(t *testing.T) {
	b, c := flow.New(), flow.New()
	checkSize(t, b, 0, 0)
	steps(t, b, "1 if 2 begin")
	checkSize(t, b, 3, 2)
	checkSize(t, c, 0, 0)
	steps(t, c, "do 7 8 9")
	checkSize(t, b, 3, 2)
	steps(t, b, "until then")
	steps(t, c, "loop")
	checkEnd(t, b, "lit 1 zero 4 lit 2 zero 3 exit 0")
	checkEnd(t, c, "do 0 lit 7 lit 8 lit 9 loop 1 exit 0")
	checkEnd(t, flow.New(), "exit 0")
}

// TestP111Put: P11.1, any instruction is laid as it is, 499 at most.
func TestP111Put(t *testing.T) {
	b := flow.New()
	var want []api.Ins
	numbers := []int{math.MinInt, -1 << 32, -1, 0, 1, 2, 499, 500, 1 << 32, math.MaxInt}
	for i := range most {
		checkSize(t, b, i, 0)
		x := api.Ins{Op: uint8(i), A: numbers[i%len(numbers)], W: api.Cell(numbers[i/3%len(numbers)])}
		checkError(t, "Put "+strconv.Itoa(i), b.Put(x), ok)
		want = append(want, x)
	}
	for _, x := range []api.Ins{{}, lit(5), {Op: api.OpExit}, {Op: 255, A: math.MaxInt}} {
		checkError(t, "one too many", b.Put(x), thRoom)
		checkSize(t, b, most, 0)
	}
	d, e := b.End()
	checkError(t, "end", e, ok)
	checkCode(t, "puts", d.L, append(want, api.Ins{Op: api.OpExit}))
}

// TestP111Open: P11.1 and P11.2, how many parts are open, and how many instructions there are, after each part.
func TestP111Open(t *testing.T) {
	for _, x := range []struct{ text, open, code string }{
		{"if else then", "1 1 0", "1 2 2"},
		{"begin 5 until", "1 1 0", "0 1 2"},
		{"begin again", "1 0", "0 1"},
		{"begin while while 5 repeat then", "1 2 3 3 1 0", "0 1 2 3 4 4"},
		{"do leave leave loop", "1 1 1 0", "1 2 3 4"},
		{"qdo if leave then plus", "1 2 2 1 0", "1 2 3 3 4"},
		{"case of endof of endof endcase", "1 2 1 2 1 0", "0 1 2 3 4 5"},
		{"do begin if case of leave endof endcase then while repeat loop", "1 2 3 4 5 5 4 3 2 3 1 0", "1 1 2 2 3 4 5 6 6 7 8 9"},
	} {
		b, open, code := flow.New(), strings.Fields(x.open), strings.Fields(x.code)
		for i, word := range strings.Fields(x.text) {
			checkError(t, word, step(b, word), ok)
			if strconv.Itoa(b.Open()) != open[i] || strconv.Itoa(b.Len()) != code[i] {
				t.Fatalf("%q, after %d: Open and Len are %d and %d, want %s and %s", x.text, i, b.Open(), b.Len(), open[i], code[i])
			}
		}
		if _, e := b.End(); e != ok {
			t.Fatalf("%q: %d", x.text, e)
		}
	}
}

// TestP112Code: P11.2, what each part makes, by hand.
func TestP112Code(t *testing.T) {
	for _, x := range [][2]string{
		{"if then", "zero 1 exit 0"},
		{"7 if 8 then 9", "lit 7 zero 3 lit 8 lit 9 exit 0"},
		{"7 if 8 else 9 then 10", "lit 7 zero 4 lit 8 jump 5 lit 9 lit 10 exit 0"},
		{"if else then", "zero 2 jump 2 exit 0"},
		{"if 1 else 2 else 3 then", "zero 3 lit 1 jump 5 lit 2 jump 6 lit 3 exit 0"},
		{"if if 1 then else if 2 then then", "zero 4 zero 3 lit 1 jump 6 zero 6 lit 2 exit 0"},
		{"begin until", "zero 0 exit 0"},
		{"5 begin 6 until 7", "lit 5 lit 6 zero 1 lit 7 exit 0"},
		{"begin again", "jump 0 exit 0"},
		{"5 begin 6 again 7", "lit 5 lit 6 jump 1 lit 7 exit 0"},
		{"begin begin 1 until 2 again", "lit 1 zero 0 lit 2 jump 0 exit 0"},
		{"begin 1 begin 2 again 3 until", "lit 1 lit 2 jump 1 lit 3 zero 0 exit 0"},
		{"begin while repeat", "zero 2 jump 0 exit 0"},
		{"5 begin 6 while 7 repeat 8", "lit 5 lit 6 zero 5 lit 7 jump 1 lit 8 exit 0"},
		{"begin 1 while 2 while 3 repeat 4 then 5", "lit 1 zero 7 lit 2 zero 6 lit 3 jump 0 lit 4 lit 5 exit 0"},
		{"begin 1 while 2 while 3 repeat 4 else 5 then", "lit 1 zero 8 lit 2 zero 6 lit 3 jump 0 lit 4 jump 9 lit 5 exit 0"},
		{"begin 1 while 2 until 3 then", "lit 1 zero 5 lit 2 zero 0 lit 3 exit 0"},
		{"begin 1 while 2 until 3 else 4 then", "lit 1 zero 6 lit 2 zero 0 lit 3 jump 7 lit 4 exit 0"},
		{"begin 1 while 2 again then", "lit 1 zero 4 lit 2 jump 0 exit 0"},
		{"if 1 begin 2 repeat 3", "zero 4 lit 1 lit 2 jump 2 lit 3 exit 0"},
		{"if 1 else 2 begin 3 repeat", "zero 3 lit 1 jump 6 lit 2 lit 3 jump 4 exit 0"},
		{"if begin while repeat then", "zero 3 zero 3 jump 1 exit 0"},
		{"if begin while repeat 1 then", "zero 4 zero 3 jump 1 lit 1 exit 0"},
		{"begin begin 1 while 2 repeat 3 while 4 repeat", "lit 1 zero 4 lit 2 jump 0 lit 3 zero 8 lit 4 jump 0 exit 0"},
		{"do loop", "do 0 loop 1 exit 0"},
		{"5 do 6 plus 7", "lit 5 do 0 lit 6 plus 2 lit 7 exit 0"},
		{"qdo loop", "qdo 2 loop 1 exit 0"},
		{"5 qdo 6 loop 7", "lit 5 qdo 4 lit 6 loop 2 lit 7 exit 0"},
		{"5 qdo 6 plus 7", "lit 5 qdo 4 lit 6 plus 2 lit 7 exit 0"},
		{"do leave loop", "do 0 leave 3 loop 1 exit 0"},
		{"do 1 leave 2 leave 3 plus 4", "do 0 lit 1 leave 7 lit 2 leave 7 lit 3 plus 1 lit 4 exit 0"},
		{"qdo leave leave loop", "qdo 4 leave 4 leave 4 loop 1 exit 0"},
		{"do qdo leave loop leave plus", "do 0 qdo 4 leave 4 loop 2 leave 6 plus 1 exit 0"},
		{"do leave do leave loop leave loop", "do 0 leave 7 do 0 leave 5 loop 3 leave 7 loop 1 exit 0"},
		{"do if leave else leave then loop", "do 0 zero 4 leave 6 jump 5 leave 6 loop 1 exit 0"},
		{"do begin leave until loop", "do 0 leave 4 zero 1 loop 1 exit 0"},
		{"do begin 1 while leave repeat loop", "do 0 lit 1 zero 5 leave 6 jump 1 loop 1 exit 0"},
		{"do case leave of leave endof leave endcase loop", "do 0 leave 8 of 5 leave 8 jump 7 leave 8 drop 0 loop 1 exit 0"},
		{"case endcase", "drop 0 exit 0"},
		{"5 case 6 endcase 7", "lit 5 lit 6 drop 0 lit 7 exit 0"},
		{"case of endof endcase", "of 2 jump 3 drop 0 exit 0"},
		{"1 case 2 of 3 endof 4 of 5 endof 6 endcase 7", "lit 1 lit 2 of 5 lit 3 jump 11 lit 4 of 9 lit 5 jump 11 lit 6 drop 0 lit 7 exit 0"},
		{"case of endof of endof of endof endcase", "of 2 jump 7 of 4 jump 7 of 6 jump 7 drop 0 exit 0"},
		{"case of case of endof endcase endof endcase", "of 5 of 3 jump 4 drop 0 jump 6 drop 0 exit 0"},
		{"case if 1 then of if 2 then endof endcase", "zero 2 lit 1 of 6 zero 5 lit 2 jump 7 drop 0 exit 0"},
	} {
		checkEnd(t, built(t, x[0]), x[1])
	}
}

// TestP112Arg: P11.2, numbers of no part are refused, whatever is open and however full the builder is.
func TestP112Arg(t *testing.T) {
	for _, text := range []string{"", "1 if", "do begin 1 while case", many("1", most), many("begin", mostOpen), many("if", mostOpen) + many("1", most-mostOpen)} {
		b := built(t, text)
		code, open := b.Len(), b.Open()
		for _, n := range wrongParts() {
			checkError(t, "part "+strconv.Itoa(n), b.Do(n), errArg)
			checkSize(t, b, code, open)
		}
	}
}

// required are the open parts that a part requires, the top one last; "*" stands for any parts above the one that is named first.
func required(name string) string {
	switch name {
	case "else", "then":
		return "gap"
	case "while", "until", "again":
		return "goal"
	case "repeat":
		return "gap goal"
	case "loop", "plus":
		return "loop"
	case "leave":
		return "loop *"
	case "of", "endcase":
		return "choice"
	case "endof":
		return "choice case"
	}
	return ""
}

// isThere is whether the open parts that a part requires are there.
func isThere(open []string, name string) bool {
	want := strings.Fields(required(name))
	if name == "leave" {
		return slices.Contains(open, want[0])
	}
	return len(open) >= len(want) && slices.Equal(open[len(open)-len(want):], want)
}

// stacks are texts that open parts, and the kinds of the parts that are open then, the top one last.
func stacks() [][2]string {
	return [][2]string{
		{"", ""},
		{"if", "gap"}, {"if else", "gap"}, {"begin", "goal"}, {"do", "loop"}, {"qdo", "loop"}, {"case", "choice"}, {"case of", "choice case"},
		{"do leave", "loop"}, {"case of endof", "choice"}, {"begin while", "gap goal"}, {"begin while again", "gap"},
		{"if if", "gap gap"}, {"if begin", "gap goal"}, {"if do", "gap loop"}, {"if case", "gap choice"}, {"if case of", "gap choice case"},
		{"begin if", "goal gap"}, {"begin begin", "goal goal"}, {"begin do", "goal loop"}, {"begin case", "goal choice"}, {"begin case of", "goal choice case"},
		{"do if", "loop gap"}, {"do begin", "loop goal"}, {"do do", "loop loop"}, {"do case", "loop choice"}, {"do case of", "loop choice case"},
		{"qdo if", "loop gap"}, {"qdo begin", "loop goal"}, {"qdo qdo", "loop loop"},
		{"case if", "choice gap"}, {"case begin", "choice goal"}, {"case do", "choice loop"}, {"case case", "choice choice"},
		{"case of if", "choice case gap"}, {"case of begin", "choice case goal"}, {"case of do", "choice case loop"}, {"case of case", "choice case choice"},
		{"do begin while", "loop gap goal"}, {"begin while while", "gap gap goal"}, {"begin while repeat do", "loop"}, {"do loop", ""}, {"do loop if", "gap"},
		{"do if begin case of begin while", "loop gap goal choice case gap goal"}, {"if do loop begin", "gap goal"},
	}
}

// TestP112Needs: P11.2, each part with each kind on top is done, or refused by ThCtrl.
func TestP112Needs(t *testing.T) {
	for _, x := range stacks() {
		for _, name := range strings.Fields(names) {
			b := built(t, x[0])
			code, open := b.Len(), b.Open()
			want := thCtrl
			if isThere(strings.Fields(x[1]), name) {
				want = ok
			}
			checkError(t, name+" after "+x[0], step(b, name), want)
			if want == thCtrl {
				checkSize(t, b, code, open)
			}
		}
	}
}

// opens and lays are whether a part opens one more, and whether it lays an instruction.
func opens(name string) bool {
	return slices.Contains(strings.Fields("if begin while do qdo case of"), name)
}

func lays(name string) bool { return !slices.Contains(strings.Fields("then begin case"), name) }

// filled is a builder that has done what a text says, with puts ahead of it and up to n instructions behind it.
func filled(t *testing.T, text string, ahead, n int) *flow.Builder {
	t.Helper()
	b := built(t, many("0", ahead)+text)
	for b.Len() < n {
		steps(t, b, "0")
	}
	return b
}

// TestP112RoomCode: P11.2, at 498 instructions everything may be laid, at 499 nothing; what is not there is told first.
func TestP112RoomCode(t *testing.T) {
	for _, x := range stacks() {
		for _, name := range strings.Fields(names) {
			for _, n := range []int{most - 1, most} {
				for _, ahead := range []int{0, 400} {
					b := filled(t, x[0], ahead, n)
					open, want := b.Open(), ok
					if n == most && lays(name) {
						want = thRoom
					}
					if !isThere(strings.Fields(x[1]), name) {
						want = thCtrl
					}
					checkError(t, name+" after "+x[0], step(b, name), want)
					if want != ok {
						checkSize(t, b, n, open)
					}
					want = ok
					if b.Len() == most {
						want = thRoom
					}
					checkError(t, "Put", b.Put(lit(1)), want)
				}
			}
		}
	}
}

// peak is how many parts are open at most while a text is done.
func peak(t *testing.T, text string) int {
	t.Helper()
	b, n := flow.New(), 0
	for _, word := range strings.Fields(text) {
		steps(t, b, word)
		n = max(n, b.Open())
	}
	return n
}

// TestP112RoomOpen: P11.2, at 31 open parts each part may be opened, at 32 none; what is not there is told first.
func TestP112RoomOpen(t *testing.T) {
	for _, x := range stacks() {
		for below, kind := range map[string]string{"begin": "goal", "if": "gap", "do": "loop", "case": "choice"} {
			for _, n := range []int{mostOpen - 1, mostOpen} {
				kinds := strings.Fields(x[1])
				more := n - len(kinds)
				if more+peak(t, x[0]) > mostOpen {
					continue
				}
				kinds = append(slices.Repeat([]string{kind}, more), kinds...)
				for _, name := range strings.Fields(names) {
					checkRoomOpen(t, many(below, more)+x[0], kinds, name)
				}
			}
		}
	}
}

// checkRoomOpen does a part with parts of these kinds open, which a text opens.
func checkRoomOpen(t *testing.T, text string, kinds []string, name string) {
	t.Helper()
	b := built(t, text)
	code, want := b.Len(), ok
	if len(kinds) == mostOpen && opens(name) {
		want = thRoom
	}
	if !isThere(kinds, name) {
		want = thCtrl
	}
	checkError(t, name+" after "+text, step(b, name), want)
	if want != ok {
		checkSize(t, b, code, len(kinds))
	}
}

// TestP112Deep: P11.2, 32 parts of each kind, one within the other, and all ends of them.
func TestP112Deep(t *testing.T) {
	b := built(t, many("if", mostOpen))
	checkError(t, "if", step(b, "if"), thRoom)
	steps(t, b, many("else then", mostOpen))
	var want []string
	for i := range mostOpen {
		want = append(want, "zero "+strconv.Itoa(2*mostOpen-i))
	}
	for i := range mostOpen {
		want = append(want, "jump "+strconv.Itoa(mostOpen+i+1))
	}
	checkEnd(t, b, strings.Join(want, " ")+" exit 0")

	b = built(t, many("1 begin", mostOpen)+many("until", mostOpen))
	want = nil
	for range mostOpen {
		want = append(want, "lit 1")
	}
	for i := range mostOpen {
		want = append(want, "zero "+strconv.Itoa(mostOpen-i))
	}
	checkEnd(t, b, strings.Join(want, " ")+" exit 0")

	b = built(t, "begin "+many("while", mostOpen-1))
	checkError(t, "while", step(b, "while"), thRoom)
	steps(t, b, "repeat "+many("then", mostOpen-2))
	checkEnd(t, b, many("zero 32", mostOpen-1)+"jump 0 exit 0")

	b = built(t, many("qdo", mostOpen))
	checkError(t, "do", step(b, "do"), thRoom)
	steps(t, b, many("leave loop", mostOpen))
	want = nil
	for i := range mostOpen {
		want = append(want, "qdo "+strconv.Itoa(3*mostOpen-2*i))
	}
	for i := range mostOpen {
		want = append(want, "leave "+strconv.Itoa(mostOpen+2*i+2), "loop "+strconv.Itoa(mostOpen-i))
	}
	checkEnd(t, b, strings.Join(want, " ")+" exit 0")

	b = built(t, many("case of", mostOpen/2))
	checkError(t, "case", step(b, "case"), thRoom)
	steps(t, b, many("endof endcase", mostOpen/2))
	want = nil
	for i := range mostOpen / 2 {
		want = append(want, "of "+strconv.Itoa(3*mostOpen/2-1-2*i))
	}
	for i := range mostOpen / 2 {
		want = append(want, "jump "+strconv.Itoa(mostOpen/2+2*i+2), "drop 0")
	}
	checkEnd(t, b, strings.Join(want, " ")+" exit 0")
}

// TestP112Gaps: P11.2, one loop, and one choice, with as many gaps as instructions may be laid.
func TestP112Gaps(t *testing.T) {
	b := built(t, "qdo "+many("leave", most-2)+"loop")
	checkError(t, "leave", step(b, "leave"), thCtrl)
	checkSize(t, b, most, 0)
	checkEnd(t, b, "qdo 499 "+many("leave 499", most-2)+"loop 1 exit 0")

	b = built(t, "case "+many("of endof", (most-1)/2)+"endcase")
	var want []string
	for i := range (most - 1) / 2 {
		want = append(want, "of "+strconv.Itoa(2*i+2), "jump 499")
	}
	checkEnd(t, b, strings.Join(want, " ")+" drop 0 exit 0")

	b = built(t, many("0", most-1)+"if then")
	checkEnd(t, b, many("lit 0", most-1)+"zero 499 exit 0")
}

// TestP112Shared: P11.2, gaps of parts that are open together stay apart.
func TestP112Shared(t *testing.T) {
	b := built(t, "do leave do leave case of endof of leave endof endcase leave loop leave leave loop")
	checkEnd(t, b, "do 0 leave 15 do 0 leave 12 of 6 jump 10 of 9 leave 12 jump 10 drop 0 leave 12 loop 3 leave 15 leave 15 loop 1 exit 0")
}

// modelPart is an open part of the model: its kind, the index of a goal or of a loop's begin, and its gaps.
type modelPart struct {
	kind string
	to   int
	gaps []int
}

// model is a builder by the chapter's words, a plain row of cases.
type model struct {
	code []api.Ins
	open []modelPart
}

func (m *model) kinds() []string {
	var l []string
	for _, p := range m.open {
		l = append(l, p.kind)
	}
	return l
}

func (m *model) put(x api.Ins) api.Errno {
	if len(m.code) == most {
		return thRoom
	}
	m.code = append(m.code, x)
	return ok
}

func (m *model) do(name string) api.Errno {
	if !isThere(m.kinds(), name) {
		return thCtrl
	}
	if lays(name) && len(m.code) == most || opens(name) && len(m.open) == mostOpen {
		return thRoom
	}
	switch name {
	case "if":
		m.push("gap", 0, m.lay(api.OpZero))
	case "else":
		at := m.lay(api.OpJump)
		m.close(m.pop())
		m.push("gap", 0, at)
	case "then":
		m.close(m.pop())
	case "case":
		m.push("choice", 0)
	case "of":
		m.push("case", 0, m.lay(api.OpOf))
	case "endof":
		at := m.lay(api.OpJump)
		m.close(m.pop())
		m.open[len(m.open)-1].gaps = append(m.open[len(m.open)-1].gaps, at)
	case "endcase":
		m.lay(api.OpDrop)
		m.close(m.pop())
	default:
		m.doRound(name)
	}
	return ok
}

// doRound does the parts of what goes round.
func (m *model) doRound(name string) {
	switch name {
	case "begin":
		m.push("goal", len(m.code))
	case "while":
		at := m.lay(api.OpZero)
		m.open = slices.Insert(m.open, len(m.open)-1, modelPart{kind: "gap", gaps: []int{at}})
	case "repeat":
		m.jump(api.OpJump, m.pop().to)
		m.close(m.pop())
	case "until":
		m.jump(api.OpZero, m.pop().to)
	case "again":
		m.jump(api.OpJump, m.pop().to)
	case "do":
		m.lay(api.OpDo)
		m.push("loop", len(m.code))
	case "qdo":
		at := m.lay(api.OpQDo)
		m.push("loop", len(m.code), at)
	case "loop", "plus":
		p := m.pop()
		m.jump(map[string]uint8{"loop": api.OpLoop, "plus": api.OpPlus}[name], p.to)
		m.close(p)
	case "leave":
		at := m.lay(api.OpLeave)
		i := len(m.open) - 1
		for m.open[i].kind != "loop" {
			i--
		}
		m.open[i].gaps = append(m.open[i].gaps, at)
	default:
		panic(name)
	}
}

func (m *model) lay(op uint8) int {
	m.code = append(m.code, api.Ins{Op: op})
	return len(m.code) - 1
}

func (m *model) jump(op uint8, to int) { m.code = append(m.code, api.Ins{Op: op, A: to}) }

func (m *model) push(kind string, to int, gaps ...int) {
	m.open = append(m.open, modelPart{kind, to, gaps})
}

func (m *model) pop() modelPart {
	last := len(m.open) - 1
	p := m.open[last]
	m.open = m.open[:last]
	return p
}

func (m *model) close(p modelPart) {
	for _, i := range p.gaps {
		m.code[i].A = len(m.code)
	}
}

func (m *model) end() (api.Def, api.Errno) {
	if len(m.open) > 0 {
		return api.Def{}, thCtrl
	}
	d := api.Def{L: append(m.code, api.Ins{Op: api.OpExit})}
	m.code = nil
	return d, ok
}

// both are a builder and its model, and what was done to them.
type both struct {
	b    *flow.Builder
	m    *model
	said []string
}

func newBoth() *both { return &both{b: flow.New(), m: &model{}} }

// checkSame holds the builder against its model, after one call of each.
func (x *both) checkSame(t *testing.T, what string, got, want api.Errno) {
	t.Helper()
	x.said = append(x.said, what)
	if got != want || x.b.Len() != len(x.m.code) || x.b.Open() != len(x.m.open) {
		t.Fatalf("%q: %d, Len %d, Open %d, want %d, %d, %d", x.said, got, x.b.Len(), x.b.Open(), want, len(x.m.code), len(x.m.open))
	}
}

func (x *both) put(t *testing.T, in api.Ins) {
	t.Helper()
	x.checkSame(t, "put", x.b.Put(in), x.m.put(in))
}

func (x *both) do(t *testing.T, name string) {
	t.Helper()
	x.checkSame(t, name, x.b.Do(partOf(name)), x.m.do(name))
}

func (x *both) doWrong(t *testing.T, part int) {
	t.Helper()
	x.checkSame(t, "part "+strconv.Itoa(part), x.b.Do(part), errArg)
}

// end ends both; what comes out is handed on.
func (x *both) end(t *testing.T) (api.Def, bool) {
	t.Helper()
	got, e := x.b.End()
	want, w := x.m.end()
	x.checkSame(t, "end", e, w)
	checkCode(t, strings.Join(x.said, " "), got.L, want.L)
	return got, e == ok
}

// enders are the parts that may end the part on top.
func (m *model) enders() []string {
	var l []string
	for _, name := range strings.Fields("then until again repeat loop plus endof endcase") {
		if isThere(m.kinds(), name) {
			l = append(l, name)
		}
	}
	return l
}

// finish ends whatever is open, as far as there is room, and the definition. At 499 instructions only a gap can be ended.
func (x *both) finish(t *testing.T, r *rand.Rand) (api.Def, bool) {
	t.Helper()
	for open := -1; len(x.m.open) > 0 && len(x.m.open) != open; {
		open = len(x.m.open)
		l := x.m.enders()
		x.do(t, l[r.Intn(len(l))])
	}
	return x.end(t)
}

// TestP112Rows: P11.1 to P11.3, all rows of up to four parts, puts and wrong parts, against the model.
func TestP112Rows(t *testing.T) {
	r := rand.New(rand.NewSource(1))
	words := append(strings.Fields(names), "put", "wrong")
	row := make([]string, 4)
	var fill func(i int)
	fill = func(i int) {
		if i < len(row) {
			for _, row[i] = range words {
				fill(i + 1)
			}
			return
		}
		x := newBoth()
		for _, word := range row {
			switch word {
			case "put":
				x.put(t, lit(len(x.said)))
			case "wrong":
				x.doWrong(t, parts+1)
			default:
				x.do(t, word)
			}
		}
		x.end(t)
		if d, ended := x.finish(t, r); ended && !ins.May(d, 0) {
			t.Fatalf("%q: %q is not valid", x.said, ins.Text(d))
		}
	}
	fill(0)
}

// plain is an instruction without a target, which may be in a definition of so many locals.
func plain(r *rand.Rand, locals int) api.Ins {
	switch n := r.Intn(9); {
	case n == 0:
		return api.Ins{Op: api.OpCall, A: 1 + r.Intn(5)}
	case n == 1:
		return api.Ins{Op: api.OpDrop}
	case n == 2:
		return api.Ins{Op: api.OpExit}
	case n < 5 && locals > 0:
		return api.Ins{Op: []uint8{api.OpLocal, api.OpTo}[n-3], A: r.Intn(locals)}
	}
	return api.Ins{Op: api.OpLit, W: api.Cell(r.Uint64())}
}

// TestP112Mixed: P11.1 to P11.4, long mixed rows against the model, up to both limits, one definition behind the other in one builder; each definition is valid.
func TestP112Mixed(t *testing.T) {
	r := rand.New(rand.NewSource(2))
	all := strings.Fields(names)
	atCode, atOpen, ended := 0, 0, 0
	for range 400 {
		x := newBoth()
		for range 3 {
			x.said = nil
			locals := r.Intn(4)
			if locals > 0 {
				x.put(t, api.Ins{Op: api.OpLocals, A: locals})
			}
			opening := r.Intn(4) // how much the row likes to open parts
			puts := 1 + r.Intn(6)
			for range []int{20, 200, 1500}[r.Intn(3)] {
				name := all[r.Intn(parts)]
				switch {
				case r.Intn(10) < puts:
					x.put(t, plain(r, locals))
				case r.Intn(40) == 0:
					wrong := wrongParts()
					x.doWrong(t, wrong[r.Intn(len(wrong))])
				case opens(name) && opening < r.Intn(4):
				default:
					x.do(t, name)
				}
				if len(x.m.open) > 0 && r.Intn(30) == 0 {
					x.end(t)
				}
				if len(x.m.code) == most {
					atCode++
				}
				if len(x.m.open) == mostOpen {
					atOpen++
				}
			}
			d, done := x.finish(t, r)
			if !done {
				break
			}
			ended++
			if !ins.May(d, 5) {
				t.Fatalf("%q: %q is not valid", x.said, ins.Text(d))
			}
		}
	}
	if atCode < 1000 || atOpen < 1000 || ended < 300 {
		t.Errorf("the rows are poor: %d steps at the limit of instructions, %d at that of parts, %d definitions", atCode, atOpen, ended)
	}
}

// tree is a control structure as what it is made of: its parts' words, and what is between them.
type tree struct {
	kind string
	kids [][]tree
	x    api.Ins
}

// grown is a made-up row of trees; leave stands only within a loop.
func grown(r *rand.Rand, depth, locals int, inLoop bool) []tree {
	var l []tree
	for range r.Intn(4) {
		kind := "put"
		if depth > 0 {
			kind = []string{"put", "if", "else", "until", "again", "while", "whiles", "do", "qdo", "do+", "qdo+", "case"}[r.Intn(12)]
		}
		if inLoop && r.Intn(5) == 0 {
			kind = "leave"
		}
		k := tree{kind: kind, x: plain(r, locals)}
		kids := map[string]int{"if": 1, "else": 2, "until": 1, "again": 1, "while": 2, "whiles": 4, "do": 1, "qdo": 1, "do+": 1, "qdo+": 1, "case": 1 + 2*r.Intn(4)}[kind]
		for range kids {
			k.kids = append(k.kids, grown(r, depth-1, locals, inLoop || strings.Contains(kind, "do")))
		}
		l = append(l, k)
	}
	return l
}

// words are what makes the kids' place: before the first one, between them, and behind the last one.
func (k tree) words() []string {
	switch k.kind {
	case "put":
		return []string{"put"}
	case "leave":
		return []string{"leave"}
	case "if":
		return []string{"if", "then"}
	case "else":
		return []string{"if", "else", "then"}
	case "until", "again":
		return []string{"begin", k.kind}
	case "while":
		return []string{"begin", "while", "repeat"}
	case "whiles": // the second while leaves to behind what stands between repeat and else, or then
		return []string{"begin", "while", "while", "repeat", "then"}
	case "do", "qdo":
		return []string{k.kind, "loop"}
	case "do+", "qdo+":
		return []string{strings.TrimSuffix(k.kind, "+"), "plus"}
	}
	l := []string{"case"}
	for range (len(k.kids) - 1) / 2 {
		l = append(l, "of", "endof")
	}
	return append(l, "endcase")
}

// compile does what a row of trees says.
func compile(x *both, t *testing.T, l []tree) {
	t.Helper()
	for _, k := range l {
		for i, word := range k.words() {
			if word == "put" {
				x.put(t, k.x)
			} else {
				x.do(t, word)
			}
			if i < len(k.kids) {
				compile(x, t, k.kids[i])
			}
		}
	}
}

// size is how many instructions a row of trees makes.
func size(l []tree) int {
	n := 0
	for _, k := range l {
		for _, word := range k.words() {
			if lays(word) {
				n++
			}
		}
		for _, kid := range k.kids {
			n += size(kid)
		}
	}
	return n
}

// meant are the instructions of a row of trees that begins at an index; the innermost loop's end is at another one. All targets are reckoned from sizes.
func meant(l []tree, at, loopEnd int) []api.Ins {
	var code []api.Ins
	for _, k := range l {
		code = append(code, k.meant(at+len(code), loopEnd)...)
	}
	return code
}

func (k tree) meant(at, loopEnd int) []api.Ins {
	end := at + size([]tree{k})
	ins := func(op uint8, to int) []api.Ins { return []api.Ins{{Op: op, A: to}} }
	kid := func(i, at int) []api.Ins { return meant(k.kids[i], at, loopEnd) }
	loop := func(first, last uint8, to int) []api.Ins {
		return slices.Concat(ins(first, to), meant(k.kids[0], at+1, end), ins(last, at+1))
	}
	switch k.kind {
	case "put":
		return []api.Ins{k.x}
	case "leave":
		return ins(api.OpLeave, loopEnd)
	case "if":
		return slices.Concat(ins(api.OpZero, end), kid(0, at+1))
	case "else":
		other := at + 2 + size(k.kids[0])
		return slices.Concat(ins(api.OpZero, other), kid(0, at+1), ins(api.OpJump, end), kid(1, other))
	case "until":
		return append(kid(0, at), ins(api.OpZero, at)...)
	case "again":
		return append(kid(0, at), ins(api.OpJump, at)...)
	case "while":
		n := size(k.kids[0])
		return slices.Concat(kid(0, at), ins(api.OpZero, end), kid(1, at+n+1), ins(api.OpJump, at))
	case "whiles": // the gap of the second while is above that of the first one
		a, b, c := size(k.kids[0]), size(k.kids[1]), size(k.kids[2])
		left := at + a + b + c + 3
		return slices.Concat(kid(0, at), ins(api.OpZero, end), kid(1, at+a+1), ins(api.OpZero, left), kid(2, at+a+b+2), ins(api.OpJump, at), kid(3, left))
	case "do":
		return loop(api.OpDo, api.OpLoop, 0)
	case "qdo":
		return loop(api.OpQDo, api.OpLoop, end)
	case "do+":
		return loop(api.OpDo, api.OpPlus, 0)
	case "qdo+":
		return loop(api.OpQDo, api.OpPlus, end)
	}
	return k.meantCase(at, loopEnd, end)
}

func (k tree) meantCase(at, loopEnd, end int) []api.Ins {
	code := meant(k.kids[0], at, loopEnd)
	for i := 1; i < len(k.kids); i += 2 {
		next := at + len(code) + size(k.kids[i]) + 2
		code = append(code, api.Ins{Op: api.OpOf, A: next})
		code = append(code, meant(k.kids[i], at+len(code), loopEnd)...)
		code = append(code, api.Ins{Op: api.OpJump, A: end})
		code = append(code, meant(k.kids[i+1], next, loopEnd)...)
	}
	return append(code, api.Ins{Op: api.OpDrop})
}

// TestP114Valid: P11.2 and P11.4, control structures one within the other make what their trees mean, and that is valid.
func TestP114Valid(t *testing.T) {
	r := rand.New(rand.NewSource(3))
	longest := 0
	for i := 0; i < 3000; {
		locals := r.Intn(5)
		var l []tree
		if locals > 0 {
			l = append(l, tree{kind: "put", x: api.Ins{Op: api.OpLocals, A: locals}})
		}
		l = append(l, grown(r, 1+i%6, locals, false)...)
		if size(l) > most {
			continue
		}
		i++
		longest = max(longest, size(l))
		x := newBoth()
		compile(x, t, l)
		d, _ := x.end(t)
		checkCode(t, strings.Join(x.said, " "), d.L, append(meant(l, 0, -1), api.Ins{Op: api.OpExit}))
		if !ins.May(d, 5) {
			t.Fatalf("%q: %q is not valid", x.said, ins.Text(d))
		}
	}
	if longest < 400 {
		t.Errorf("the longest definition has but %d instructions", longest)
	}
}

// TestP113Open: P11.3, nothing is ended while a part is open, and nothing is lost by asking.
func TestP113Open(t *testing.T) {
	for _, x := range stacks() {
		b := built(t, "7 "+x[0])
		code, open := b.Len(), b.Open()
		if open != len(strings.Fields(x[1])) {
			t.Fatalf("%q: %d are open", x[0], open)
		}
		if open == 0 {
			continue
		}
		for range 3 {
			checkNoEnd(t, b)
			checkSize(t, b, code, open)
		}
	}
	b := built(t, "1 if 2")
	checkNoEnd(t, b)
	steps(t, b, "else 3")
	checkNoEnd(t, b)
	steps(t, b, "then")
	checkEnd(t, b, "lit 1 zero 4 lit 2 jump 5 lit 3 exit 0")
	b = filled(t, "if", 0, most)
	checkNoEnd(t, b)
	steps(t, b, "then")
	checkEnd(t, b, "zero 499 "+many("lit 0", most-1)+"exit 0")
}

// TestP113Again: P11.3, a builder has no instructions behind an end, and begins anew.
func TestP113Again(t *testing.T) {
	b := flow.New()
	for range 3 {
		checkEnd(t, b, "exit 0")
		checkError(t, "then", step(b, "then"), thCtrl)
		checkError(t, "leave", step(b, "leave"), thCtrl)
		steps(t, b, "1 begin 2 until")
		checkEnd(t, b, "lit 1 lit 2 zero 1 exit 0")
		steps(t, b, many("5", most))
		checkError(t, "Put", b.Put(lit(1)), thRoom)
		checkEnd(t, b, many("lit 5", most)+"exit 0")
		steps(t, b, "case of endof endcase do leave loop")
		checkEnd(t, b, "of 2 jump 3 drop 0 do 0 leave 6 loop 4 exit 0")
	}
}

// TestP113Own: P11.3, a definition is the caller's: what either side does later does not touch the other one.
func TestP113Own(t *testing.T) {
	b := flow.New()
	var ended, kept []api.Def
	for i := range 20 {
		steps(t, b, many("if 1 else 2 then", 1+i%5)+many("do leave loop", 20-i))
		d, e := b.End()
		checkError(t, "end", e, ok)
		ended = append(ended, d)
		kept = append(kept, api.Def{L: slices.Clone(d.L)})
		for j, x := range kept {
			checkCode(t, "ended earlier", ended[j].L, x.L)
		}
	}
	steps(t, b, "begin 1 while 2 repeat")
	for _, d := range ended {
		all := d.L[:cap(d.L)]
		for i := range all {
			all[i] = api.Ins{Op: 99, A: 99, W: 99}
		}
	}
	checkEnd(t, b, "lit 1 zero 4 lit 2 jump 0 exit 0")
}

// TestNil: a nil builder refuses everything, wrong parts too, and has nothing.
func TestNil(t *testing.T) {
	var b *flow.Builder
	checkError(t, "Put", b.Put(lit(1)), errNone)
	checkError(t, "Put", b.Put(api.Ins{}), errNone)
	for _, n := range append(wrongParts(), 1, 2, 3, 4, 5, 6, 7, 8, 9, 10, 11, 12, 13, 14, 15, 16, 17) {
		checkError(t, "part "+strconv.Itoa(n), b.Do(n), errNone)
	}
	checkSize(t, b, 0, 0)
	if d, e := b.End(); e != errNone || d.L != nil {
		t.Errorf("End = %v, %d, want nothing, %d", d, e, errNone)
	}
}
