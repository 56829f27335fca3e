package source_test

import (
	"math"
	"math/rand"
	"strings"
	"testing"

	"rhyton/api"
	"rhyton/scan"
	"rhyton/source"
)

// The errors and the limits are written as numbers: a wrong name in the package cannot hide behind the same name here.
const (
	ok      = api.Errno(0)
	errNone = api.Errno(2)
	errLong = api.Errno(3)
	thDeep  = api.Errno(-5)

	longest = 1000
	most    = 8

	least    = api.Cell(math.MinInt64)
	greatest = api.Cell(math.MaxInt64)
)

// opened is what a source must be.
type opened struct {
	id   api.Cell
	text string
	in   int
}

// watched is an input and the sources that it must have: what is done to it is done to both, and both are held against each other. last is the number of the source that was opened last.
type watched struct {
	*testing.T
	p    *source.Input
	l    []opened
	last api.Cell
}

// of is an input of some texts.
func of(t *testing.T, texts ...string) *watched {
	t.Helper()
	w := &watched{T: t, p: source.New()}
	if w.p == nil {
		t.Fatal("New() = nil")
	}
	w.same("New()")
	for _, s := range texts {
		w.open(s)
	}
	return w
}

// top is the last source; without one, it is an empty one.
func (w *watched) top() *opened {
	if len(w.l) == 0 {
		return &opened{}
	}
	return &w.l[len(w.l)-1]
}

// same holds all that can be asked against what it must be. It asks twice, because asking must not change anything.
func (w *watched) same(after string, args ...any) {
	w.Helper()
	want := *w.top()
	for range 2 {
		if n := w.p.Depth(); n != len(w.l) {
			w.Fatalf(after+": Depth() = %d, want %d", append(args, n, len(w.l))...)
		}
		if s := w.p.Text(); s != want.text {
			w.Fatalf(after+": Text() = %q, want %q", append(args, s, want.text)...)
		}
		if in := w.p.In(); in != want.in {
			w.Fatalf(after+": In() = %d, want %d", append(args, in, want.in)...)
		}
		if id, in := w.p.Save(); id != want.id || in != api.Cell(want.in) {
			w.Fatalf(after+": Save() = %d, %d, want %d, %d", append(args, id, in, want.id, want.in)...)
		}
	}
}

func (w *watched) error(got, want api.Errno, call string, args ...any) {
	w.Helper()
	if got != want {
		w.Errorf(call+" = %d, want %d", append(args, got, want)...)
	}
	w.same(call, args...)
}

func (w *watched) open(s string) {
	w.Helper()
	e := ok
	switch {
	case len(s) > longest:
		e = errLong
	case len(w.l) == most:
		e = thDeep
	default:
		w.last++
		w.l = append(w.l, opened{w.last, s, 0})
	}
	w.error(w.p.Open(s), e, "Open(%.20q) of %d bytes at a depth of %d", s, len(s), w.p.Depth())
}

func (w *watched) close() {
	w.Helper()
	e := errNone
	if n := len(w.l); n > 0 {
		w.l, e = w.l[:n-1], ok
	}
	w.error(w.p.Close(), e, "Close()")
}

func (w *watched) cut(n int) {
	w.Helper()
	if n < 0 {
		w.l = nil
	} else if n < len(w.l) {
		w.l = w.l[:n]
	}
	w.p.Cut(n)
	w.same("Cut(%d)", n)
}

func (w *watched) seek(in int) {
	w.Helper()
	to := w.top()
	switch {
	case in < 0:
		to.in = 0
	case in > len(to.text):
		to.in = len(to.text)
	default:
		to.in = in
	}
	w.p.Seek(in)
	w.same("Seek(%d)", in)
}

func (w *watched) read(got, want, call string) {
	w.Helper()
	if got != want {
		w.Errorf("%s = %q, want %q", call, got, want)
	}
	w.same(call)
}

func (w *watched) word() {
	w.Helper()
	from := w.top()
	var want string
	want, from.in = scan.Word(from.text, from.in)
	w.read(w.p.Word(), want, "Word()")
}

func (w *watched) part(end byte) {
	w.Helper()
	from := w.top()
	var want string
	want, from.in = scan.Part(from.text, from.in, end)
	w.read(w.p.Part(end), want, "Part("+string(end)+")")
}

func (w *watched) turned() {
	w.Helper()
	from := w.top()
	var want string
	want, from.in = scan.Turned(from.text, from.in)
	w.read(w.p.Turned(), want, "Turned()")
}

func (w *watched) restore(id, in api.Cell) {
	w.Helper()
	to := w.top()
	want := len(w.l) > 0 && to.id == id && 0 <= in && in <= api.Cell(len(to.text))
	if want {
		to.in = int(in)
	}
	if got := w.p.Restore(id, in); got != want {
		w.Errorf("Restore(%d, %d) = %t, want %t", id, in, got, want)
	}
	w.same("Restore(%d, %d)", id, in)
}

// someCells are around the numbers and positions that there may be, and great ones that wrap around or are cut to them.
func someCells() []api.Cell {
	l := []api.Cell{least, least + 1, least + 4, greatest - 1, greatest, longest - 1, longest, longest + 1}
	for c := api.Cell(-3); c <= 12; c++ {
		l = append(l, c, c+1<<8, c+1<<16, c+1<<31, c+1<<32, c-1<<32)
	}
	return l
}

// someNumbers are the same as plain numbers.
func someNumbers() []int {
	var l []int
	for _, c := range someCells() {
		l = append(l, int(c))
	}
	return l
}

// someTexts hold blanks, delimiters, escape sequences, bytes of no character, and none at all.
func someTexts() []string {
	return []string{"", " ", "a b", "a b ", "  dup  1", "one two) \"x\\ny\" four", "a\\x41\\\"b\" c", "\x00\x1f\x7f\xff z", "äöü \xc3", "\\", ")))", strings.Repeat("ab ", 333) + "c"}
}

// TestExample: the chapter's example.
func TestExample(t *testing.T) {
	p := source.New()
	var words []string
	p.Open("a b")
	words = append(words, p.Word())
	p.Open("c")
	words = append(words, p.Word())
	p.Close()
	words = append(words, p.Word())
	if got := strings.Join(words, " "); got != "a c b" {
		t.Errorf("the words are %q", got)
	}
}

// TestP81New: P8.1, a new input has no sources, and each one is another.
func TestP81New(t *testing.T) {
	a, b := of(t), of(t)
	a.open("one two")
	a.word()
	b.same("Open of another input")
	b.open("three")
	b.cut(0)
	a.same("Cut of another input")
	of(t).same("New() after others")
}

// TestP81Both: P8.1, plain cases written by hand.
func TestP81Both(t *testing.T) {
	p := source.New()
	if e := p.Close(); e != errNone {
		t.Errorf("Close() without sources = %d", e)
	}
	p.Open("one two")
	p.Seek(3)
	if p.Depth() != 1 || p.Text() != "one two" || p.In() != 3 {
		t.Errorf("after Open: %d, %q, %d", p.Depth(), p.Text(), p.In())
	}
	if e := p.Open("three"); e != ok || p.Depth() != 2 || p.Text() != "three" || p.In() != 0 {
		t.Errorf("after Open = %d: %d, %q, %d", e, p.Depth(), p.Text(), p.In())
	}
	p.Seek(6)
	if p.In() != 5 {
		t.Errorf("In() after Seek(6) = %d", p.In())
	}
	p.Seek(-1)
	if p.In() != 0 {
		t.Errorf("In() after Seek(-1) = %d", p.In())
	}
	if e := p.Close(); e != ok || p.Depth() != 1 || p.Text() != "one two" || p.In() != 3 {
		t.Errorf("after Close = %d: %d, %q, %d", e, p.Depth(), p.Text(), p.In())
	}
	p.Open("four")
	p.Open("five")
	if id, in := p.Save(); id != 4 || in != 0 {
		t.Errorf("Save() = %d, %d", id, in)
	}
	p.Cut(1)
	if p.Depth() != 1 || p.Text() != "one two" || p.In() != 3 {
		t.Errorf("after Cut(1): %d, %q, %d", p.Depth(), p.Text(), p.In())
	}
	p.Cut(-1)
	if p.Depth() != 0 || p.Text() != "" || p.In() != 0 {
		t.Errorf("after Cut(-1): %d, %q, %d", p.Depth(), p.Text(), p.In())
	}
}

// TestP81Open: P8.1, the greatest length and the greatest depth, and beyond; what is refused takes no number.
func TestP81Open(t *testing.T) {
	text := strings.Repeat("x", longest+1)
	w := of(t)
	w.open(text)
	for _, n := range []int{longest, longest - 1, 0, 1} {
		w.open(text[:n])
		w.open(text)
		w.open(text + text)
	}
	for range most {
		w.open("deeper")
	}
	if len(w.l) != most {
		t.Errorf("the depth is %d", len(w.l))
	}
	w.open(text[:longest])
	w.open(text) // both errors apply
	w.close()
	w.open(text)
	w.open("again")
	w.open("again")
}

// TestP81Number: P8.1, each source has a number of its own, also after sources are gone, in whichever way.
func TestP81Number(t *testing.T) {
	w := of(t)
	for range 300 {
		w.open("")
		w.open("a")
		w.close()
		w.open("b")
		w.cut(1)
		w.open("c")
		w.cut(0)
	}
	if w.last != 1200 {
		t.Errorf("the last number is %d", w.last)
	}
}

// TestP81Close: P8.1 and P8.4, from a full stack to none.
func TestP81Close(t *testing.T) {
	w := of(t)
	for i := range most {
		w.open(strings.Repeat("ab ", i))
		w.seek(2*i - 1)
	}
	for range most + 2 {
		w.close()
	}
	w.open("x")
	w.close()
	w.close()
}

// TestP81Cut: P8.1, from each depth to each depth; more than there are changes nothing.
func TestP81Cut(t *testing.T) {
	for depth := range most + 1 {
		for _, n := range append(someNumbers(), math.MinInt, math.MaxInt) {
			w := of(t)
			for i := range depth {
				w.open("text " + strings.Repeat("y", i))
				w.seek(i)
			}
			w.cut(n)
			w.open("other")
			w.close()
			w.cut(n)
			w.cut(1)
			w.cut(1)
		}
	}
}

// TestP81Seek: P8.1, within the text and beyond its ends.
func TestP81Seek(t *testing.T) {
	for _, s := range someTexts() {
		w := of(t, "below", s)
		for _, in := range append(someNumbers(), len(s)-1, len(s), len(s)+1, math.MinInt, math.MaxInt) {
			w.seek(2)
			w.seek(in)
		}
		w.close()
	}
}

// TestP82Both: P8.2, plain cases written by hand.
func TestP82Both(t *testing.T) {
	p := source.New()
	p.Open(`one  two) "x\ny" a\q" four`)
	for _, x := range []struct {
		got, want string
		in        int
	}{
		{p.Word(), "one", 4},
		{p.Part(')'), " two", 9},
		{p.Part('"'), " ", 11},
		{p.Turned(), "x\ny", 16},
		{p.Turned(), ` a"`, 21},
		{p.Word(), "four", 26},
		{p.Word(), "", 26},
		{p.Part(' '), "", 26},
		{p.Turned(), "", 26},
	} {
		if x.got != x.want {
			t.Errorf("read %q, want %q", x.got, x.want)
		}
	}
	for _, x := range []struct {
		from int
		read func() string
		in   int
	}{{0, p.Word, 4}, {3, p.Word, 10}, {4, func() string { return p.Part(')') }, 9}, {4, func() string { return p.Part('~') }, 26}, {11, p.Turned, 16}, {16, p.Turned, 21}, {21, p.Turned, 26}} {
		p.Seek(x.from)
		x.read()
		if p.In() != x.in {
			t.Errorf("read from %d to %d, want %d", x.from, p.In(), x.in)
		}
	}
}

// TestP82Reading: P8.2, each text from each position, and on to its end.
func TestP82Reading(t *testing.T) {
	for _, s := range someTexts() {
		for in := 0; in <= min(len(s), 40); in++ {
			for _, read := range []func(*watched){(*watched).word, (*watched).turned} {
				w := of(t, "below it", s)
				w.seek(in)
				for range len(s) + 1 {
					read(w)
				}
				w.close()
			}
			for _, end := range []byte(" )\"a\\\x00\xff\xc3") {
				w := of(t, "below it", s)
				w.seek(in)
				for range 5 {
					w.part(end)
				}
				w.close()
			}
		}
	}
}

// TestP82None: P8.2, without sources.
func TestP82None(t *testing.T) {
	w := of(t)
	w.nothing()
	w.open("one two")
	w.word()
	w.close()
	w.nothing()
}

func (w *watched) nothing() {
	w.Helper()
	w.word()
	w.part(' ')
	w.part(0)
	w.turned()
	w.seek(1)
	w.seek(-1)
	w.cut(1)
	w.cut(-1)
	w.close()
	for _, c := range someCells() {
		w.restore(c, 0)
		w.restore(0, c)
		w.restore(1, c)
	}
}

// TestP83Both: P8.3, plain cases written by hand.
func TestP83Both(t *testing.T) {
	p := source.New()
	if id, in := p.Save(); id != 0 || in != 0 || p.Restore(0, 0) {
		t.Errorf("Save() = %d, %d", id, in)
	}
	p.Open("one two three")
	p.Word()
	id, in := p.Save()
	if id != 1 || in != 4 {
		t.Errorf("Save() = %d, %d", id, in)
	}
	p.Word()
	if !p.Restore(id, in) || p.Word() != "two" {
		t.Errorf("after Restore, In() = %d", p.In())
	}
	p.Open("one two three")
	if p.Restore(id, in) || p.In() != 0 {
		t.Errorf("Restore in another source: In() = %d", p.In())
	}
	p.Close()
	if !p.Restore(id, in) || p.In() != 4 {
		t.Errorf("Restore after Close: In() = %d", p.In())
	}
	p.Close()
	p.Open("one two three")
	if p.Restore(id, in) || p.In() != 0 {
		t.Errorf("Restore after its source is gone: In() = %d", p.In())
	}
	for _, in := range []api.Cell{0, 13} {
		if !p.Restore(3, in) || p.In() != int(in) {
			t.Errorf("Restore(3, %d): In() = %d", in, p.In())
		}
	}
	for _, in := range []api.Cell{-1, 14} {
		if p.Restore(3, in) || p.In() != 13 {
			t.Errorf("Restore(3, %d): In() = %d", in, p.In())
		}
	}
}

// TestP83Restore: P8.3, all numbers and positions, in sources of several lengths.
func TestP83Restore(t *testing.T) {
	for _, s := range someTexts() {
		w := of(t, "first", "second", s)
		for _, id := range someCells() {
			w.seek(1)
			w.restore(id, 0)
			w.restore(id, api.Cell(len(s)))
		}
		for _, in := range append(someCells(), api.Cell(len(s)-1), api.Cell(len(s)), api.Cell(len(s)+1)) {
			for id := api.Cell(0); id <= 4; id++ {
				w.seek(1)
				w.restore(id, in)
			}
		}
	}
}

// TestP84Below: P8.4, whatever is done above a source, it is as it was when that is gone.
func TestP84Below(t *testing.T) {
	for depth := 1; depth <= most-2; depth++ {
		w := of(t)
		for i := range depth {
			w.open("some words of a text")
			w.seek(i)
			w.word()
		}
		before := *w.top()
		w.open("another (text) \"here\"")
		w.restore(before.id, 2)
		w.word()
		w.part(')')
		w.turned()
		w.seek(3)
		w.open("third")
		w.word()
		w.close()
		w.close()
		if *w.top() != before {
			t.Fatalf("the source below became %v, want %v", *w.top(), before)
		}
		w.same("Close()")
	}
}

// TestNil: what the chapter says of a nil Input.
func TestNil(t *testing.T) {
	var p *source.Input
	for _, s := range []string{"", "a b", strings.Repeat("x", longest+1)} {
		if e := p.Open(s); e != errNone {
			t.Errorf("Open(%.5q) = %d", s, e)
		}
	}
	if e := p.Close(); e != errNone {
		t.Errorf("Close() = %d", e)
	}
	for _, n := range someNumbers() {
		p.Cut(n)
		p.Seek(n)
	}
	if p.Depth() != 0 || p.Text() != "" || p.In() != 0 {
		t.Errorf("Depth() = %d, Text() = %q, In() = %d", p.Depth(), p.Text(), p.In())
	}
	if p.Word() != "" || p.Part(' ') != "" || p.Part(0) != "" || p.Turned() != "" {
		t.Error("something was read")
	}
	if id, in := p.Save(); id != 0 || in != 0 {
		t.Errorf("Save() = %d, %d", id, in)
	}
	for _, id := range []api.Cell{least, -1, 0, 1, greatest} {
		if p.Restore(id, 0) {
			t.Errorf("Restore(%d, 0) = true", id)
		}
	}
}

// TestLongRows: P8.1 to P8.4, long rows of calls in any order.
func TestLongRows(t *testing.T) {
	r := rand.New(rand.NewSource(8))
	texts := append(someTexts(), strings.Repeat("y", longest+1))
	for range 300 {
		w := of(t)
		for range 300 {
			w.any(r, texts)
		}
	}
}

func (w *watched) any(r *rand.Rand, texts []string) {
	w.Helper()
	switch r.Intn(12) {
	case 0, 1:
		w.open(texts[r.Intn(len(texts))])
	case 2:
		w.close()
	case 3:
		if r.Intn(4) == 0 {
			w.cut(r.Intn(most+4) - 2)
		}
	case 4:
		w.seek(r.Intn(40) - 10)
	case 5, 6, 7:
		w.word()
	case 8:
		w.part(")\" ab\xff"[r.Intn(6)])
	case 9:
		w.turned()
	default:
		w.restore(w.top().id+api.Cell(r.Intn(4)/3), api.Cell(r.Intn(30)-5))
	}
}
