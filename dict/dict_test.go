package dict_test

import (
	"math"
	"math/rand"
	"slices"
	"strconv"
	"strings"
	"testing"

	"rhyton/api"
	"rhyton/dict"
)

// The errors and the limits are written as numbers: a wrong name in the package cannot hide behind the same name here.
const (
	ok      = api.Errno(0)
	errArg  = api.Errno(1)
	errNone = api.Errno(2)
	thRoom  = api.Errno(-8)
	thEmpty = api.Errno(-16)
	thLong  = api.Errno(-19)
	thOrder = api.Errno(-49)

	longest   = 31
	mostWords = 2000
	mostLists = 8
	mostOrder = 8
)

// listed is what a word must be, and the list that it belongs to.
type listed struct {
	api.Entry
	list int
}

// watched is a dictionary and what it must be: what is done to it is done to both, and both are held against each other.
type watched struct {
	*testing.T
	d       *dict.Dict
	words   []listed
	lists   int
	order   []int
	current int
	asked   []string // names that are asked for besides those of the words
}

// fresh is a new dictionary.
func fresh(t *testing.T, asked ...string) *watched {
	t.Helper()
	w := &watched{T: t, d: dict.New(), lists: 1, order: []int{1}, current: 1, asked: asked}
	if w.d == nil {
		t.Fatal("New() = nil")
	}
	w.same("New()")
	return w
}

// small is a text with small letters for capital ones, by the numbers of its bytes.
func small(s string) string {
	l := []byte(s)
	for i := range l {
		if 65 <= l[i] && l[i] <= 90 {
			l[i] += 32
		}
	}
	return string(l)
}

// swapped is a text with small letters for capital ones, and the other way round.
func swapped(s string) string {
	l := []byte(s)
	for i := range l {
		switch {
		case 65 <= l[i] && l[i] <= 90:
			l[i] += 32
		case 97 <= l[i] && l[i] <= 122:
			l[i] -= 32
		}
	}
	return string(l)
}

// in is what In must answer: the words are gone through from the last one on.
func (w *watched) in(list int, name string) (api.Entry, bool) {
	for _, x := range slices.Backward(w.words) {
		if x.list == list && small(x.Name) == small(name) {
			return x.Entry, true
		}
	}
	return api.Entry{}, false
}

// find is what Find must answer.
func (w *watched) find(name string) (api.Entry, bool) {
	for _, list := range w.order {
		if x, found := w.in(list, name); found {
			return x, true
		}
	}
	return api.Entry{}, false
}

// names are what Names must answer.
func (w *watched) names(list int) []string {
	var l []string
	for _, x := range slices.Backward(w.words) {
		if x.list == list {
			l = append(l, x.Name)
		}
	}
	return l
}

// someLists are those that there may be, and those that there are not.
func someLists() []int {
	l := []int{math.MinInt, -1 << 32, -1<<32 + 1, -256, -255, 257, 1 << 16, 1<<16 + 1, 1<<31 + 1, 1<<32 + 1, math.MaxInt}
	for list := -3; list <= mostLists+3; list++ {
		l = append(l, list)
	}
	return l
}

// same holds all that can be asked against what it must be. It asks twice and spoils the results, because neither may change anything.
func (w *watched) same(after string, args ...any) {
	w.Helper()
	for range 2 {
		w.sameState(after, args...)
		w.sameWords(after, args...)
	}
}

func (w *watched) sameState(after string, args ...any) {
	w.Helper()
	if m := w.d.Mark(); m != (api.Mark{Words: len(w.words), Lists: w.lists}) {
		w.Fatalf(after+": Mark() = %v, want %d, %d", append(args, m, len(w.words), w.lists)...)
	}
	if list := w.d.Current(); list != w.current {
		w.Fatalf(after+": Current() = %d, want %d", append(args, list, w.current)...)
	}
	order := w.d.Order()
	if !slices.Equal(order, w.order) {
		w.Fatalf(after+": Order() = %v, want %v", append(args, order, w.order)...)
	}
	spoil(order, -7)
	for _, list := range someLists() {
		names := w.d.Names(list)
		if !slices.Equal(names, w.names(list)) {
			w.Fatalf(after+": Names(%d) = %q, want %q", append(args, list, names, w.names(list))...)
		}
		spoil(names, "spoiled")
	}
}

// spoil overwrites a slice, up to its capacity.
func spoil[T any](l []T, x T) {
	l = l[:cap(l)]
	for i := range l {
		l[i] = x
	}
}

func (w *watched) sameWords(after string, args ...any) {
	w.Helper()
	asked := append([]string{"", "spoiled", strings.Repeat("n", longest+1)}, w.asked...)
	for i, x := range w.words {
		if i < 20 || i > len(w.words)-20 {
			asked = append(asked, x.Name, swapped(x.Name), x.Name+"x", x.Name[1:])
		}
	}
	slices.Sort(asked)
	for _, name := range slices.Compact(asked) {
		x, found := w.d.Find(name)
		if want, is := w.find(name); x != want || found != is {
			w.Fatalf(after+": Find(%q) = %v, %t, want %v, %t", append(args, name, x, found, want, is)...)
		}
		for list := -1; list <= mostLists+1; list++ {
			x, found := w.d.In(list, name)
			if want, is := w.in(list, name); x != want || found != is {
				w.Fatalf(after+": In(%d, %q) = %v, %t, want %v, %t", append(args, list, name, x, found, want, is)...)
			}
		}
	}
}

func (w *watched) error(got, want api.Errno, call string, args ...any) {
	w.Helper()
	if got != want {
		w.Errorf(call+" = %d, want %d", append(args, got, want)...)
	}
	w.same(call, args...)
}

func (w *watched) add(name string, xt int) {
	w.Helper()
	e := ok
	switch {
	case name == "":
		e = thEmpty
	case len(name) > longest:
		e = thLong
	case len(w.words) == mostWords:
		e = thRoom
	default:
		w.words = append(w.words, listed{api.Entry{Name: name, Xt: xt}, w.current})
	}
	w.error(w.d.Add(name, xt), e, "Add(%.40q, %d)", name, xt)
}

// fill adds words up to n, of which no one is asked.
func (w *watched) fill(n int) {
	w.Helper()
	for len(w.words) < n {
		name := "Word" + strconv.Itoa(len(w.words))
		w.words = append(w.words, listed{api.Entry{Name: name, Xt: -len(w.words)}, w.current})
		if e := w.d.Add(name, 1-len(w.words)); e != ok {
			w.Fatalf("Add(%q) = %d", name, e)
		}
	}
}

func (w *watched) now() {
	w.Helper()
	e := errNone
	if n := len(w.words); n > 0 {
		w.words[n-1].Now, e = true, ok
	}
	w.error(w.d.Now(), e, "Now()")
}

func (w *watched) list() {
	w.Helper()
	want, e := 0, thOrder
	if w.lists < mostLists {
		w.lists++
		want, e = w.lists, ok
	}
	got, gotE := w.d.List()
	if got != want {
		w.Errorf("List() = %d, want %d", got, want)
	}
	w.error(gotE, e, "List()")
}

// has is whether there is a list.
func (w *watched) has(list int) bool { return 1 <= list && list <= w.lists }

func (w *watched) setOrder(l ...int) {
	w.Helper()
	e := ok
	if len(l) > mostOrder {
		e = thOrder
	}
	for _, list := range l {
		if !w.has(list) {
			e = thOrder
		}
	}
	if e == ok {
		w.order = slices.Clone(l)
	}
	given := slices.Clone(l)
	got := w.d.SetOrder(given)
	if !slices.Equal(given, l) {
		w.Errorf("SetOrder(%v) made %v of it", l, given)
	}
	spoil(given, -7)
	w.error(got, e, "SetOrder(%v)", l)
}

func (w *watched) setCurrent(list int) {
	w.Helper()
	e := thOrder
	if w.has(list) {
		w.current, e = list, ok
	}
	w.error(w.d.SetCurrent(list), e, "SetCurrent(%d)", list)
}

// before is whether there may have been so many words and lists.
func (w *watched) before(m api.Mark) bool {
	if len(w.words) < m.Words || w.lists < m.Lists || m.Words < 0 || m.Lists < 1 {
		return false
	}
	for _, x := range w.words[:m.Words] {
		if x.list > m.Lists {
			return false
		}
	}
	return true
}

func (w *watched) back(words, lists int) {
	w.Helper()
	m, e := api.Mark{Words: words, Lists: lists}, errArg
	if w.before(m) {
		e = ok
		w.words, w.lists = w.words[:words:words], lists
		var order []int
		for _, list := range w.order {
			if w.has(list) {
				order = append(order, list)
			}
		}
		w.order = order
		if !w.has(w.current) {
			w.current = 1
		}
	}
	w.error(w.d.Back(m), e, "Back(%d, %d)", words, lists)
}

// TestExample: the chapter's example.
func TestExample(t *testing.T) {
	d := dict.New()
	d.Add("Dup", 5)
	if x, found := d.Find("dUP"); !found || x != (api.Entry{Name: "Dup", Xt: 5}) {
		t.Errorf("Find = %v, %t", x, found)
	}
}

// TestP91New: P9.1, a new dictionary has the list 1 and no words, and each one is another.
func TestP91New(t *testing.T) {
	d := dict.New()
	if m, o, c := d.Mark(), d.Order(), d.Current(); m != (api.Mark{Words: 0, Lists: 1}) || len(o) != 1 || o[0] != 1 || c != 1 {
		t.Errorf("New(): %v, %v, %d", m, o, c)
	}
	a, b := fresh(t, "one", "two"), fresh(t, "one", "two")
	a.list()
	a.setCurrent(2)
	a.setOrder(2, 1, 2)
	a.add("one", 1)
	b.same("Add to another dictionary")
	b.add("two", 2)
	b.now()
	a.same("Add to another dictionary")
	b.back(0, 1)
	a.same("Back of another dictionary")
	fresh(t, "one", "two")
}

// TestP91Both: P9.1, plain cases written by hand.
func TestP91Both(t *testing.T) {
	d := dict.New()
	if e := d.Now(); e != errNone {
		t.Errorf("Now() without words = %d", e)
	}
	for _, x := range []struct {
		name string
		e    api.Errno
	}{{"", -16}, {strings.Repeat("x", 32), -19}, {strings.Repeat("x", 31), 0}, {"b", 0}} {
		if e := d.Add(x.name, 7); e != x.e {
			t.Errorf("Add(%q) = %d", x.name, e)
		}
	}
	if m := d.Mark(); m.Words != 2 {
		t.Errorf("there are %d words", m.Words)
	}
	if x, found := d.Find("b"); !found || x != (api.Entry{Name: "b", Xt: 7}) {
		t.Errorf("Find = %v, %t", x, found)
	}
	if e := d.Now(); e != ok {
		t.Errorf("Now() = %d", e)
	}
	if x, found := d.Find("b"); !found || x != (api.Entry{Name: "b", Xt: 7, Now: true}) {
		t.Errorf("Find = %v, %t", x, found)
	}
	if x, found := d.Find(strings.Repeat("X", 31)); !found || x != (api.Entry{Name: strings.Repeat("x", 31), Xt: 7}) {
		t.Errorf("Find = %v, %t", x, found)
	}
}

// TestP91Add: P9.1, names of each length, as many bytes and not characters, and any xt.
func TestP91Add(t *testing.T) {
	w := fresh(t)
	for n := range 40 {
		w.add(strings.Repeat("x", n), n)
		w.add(strings.Repeat("Ä", n), -n)
		w.add(strings.Repeat("\x00", n), n<<32)
	}
	for _, n := range []int{255, 256, 257, 287, 1<<16 + 1, 1 << 20} {
		w.add(strings.Repeat("y", n), n)
	}
	for _, xt := range []int{math.MinInt, math.MinInt + 1, -1 << 32, -1, 0, 1, 599, 600, 1 << 32, math.MaxInt} {
		w.add("xt", xt)
	}
}

// TestP91Full: P9.1, the greatest number of words, in whichever lists they are; the name's errors come first.
func TestP91Full(t *testing.T) {
	w := fresh(t, "last", "more")
	w.list()
	w.fill(mostWords/2 - 1)
	w.setCurrent(2)
	w.setOrder(2, 1)
	w.fill(mostWords - 1)
	w.add("last", 1)
	for _, name := range []string{"more", "last", "", strings.Repeat("x", longest), strings.Repeat("x", longest+1)} {
		w.add(name, 2)
		w.setCurrent(3 - w.current)
	}
	w.now()
	w.list()
	w.setCurrent(3)
	w.add("more", 3)
	w.back(mostWords-1, 3)
	w.add("more", 4)
	w.add("more", 5)
	w.back(0, 1)
	w.fill(mostWords)
	w.add("more", 6)
}

// TestP91Now: P9.1, the last word of all is done at once, whichever list it belongs to.
func TestP91Now(t *testing.T) {
	w := fresh(t)
	w.now()
	w.list()
	w.now()
	w.add("a", 1)
	w.add("b", 2)
	w.now()
	w.now()
	w.setCurrent(2)
	w.now()
	w.add("c", 3)
	w.setCurrent(1)
	w.now()
	w.add("b", 4)
	w.add("", 5)
	w.back(4, 2)
	w.back(3, 2)
	w.add("d", 6)
	w.back(1, 2)
	w.setOrder()
	w.now()
	w.back(0, 2)
	w.now()
	w.add("a", 7)
}

// TestP92Both: P9.2, plain cases written by hand.
func TestP92Both(t *testing.T) {
	d := dict.New()
	d.List()
	d.Add("one", 1)
	d.Add("Two", 2)
	d.SetCurrent(2)
	d.Add("TWO", 3)
	d.Add("three", 4)
	d.Add("tWo", 5)
	d.SetOrder([]int{1, 2})
	for _, x := range []struct {
		list int
		name string
		xt   int
	}{{1, "two", 2}, {2, "two", 5}, {1, "three", 0}, {2, "one", 0}, {1, "ONE", 1}, {0, "one", 0}, {3, "one", 0}, {-1, "one", 0}, {1, "", 0}} {
		if got, found := d.In(x.list, x.name); got.Xt != x.xt || found != (x.xt != 0) {
			t.Errorf("In(%d, %q) = %v, %t", x.list, x.name, got, found)
		}
	}
	if x, found := d.Find("two"); !found || x.Name != "Two" {
		t.Errorf("Find = %v, %t", x, found)
	}
	if x, found := d.Find("Three"); !found || x.Name != "three" {
		t.Errorf("Find = %v, %t", x, found)
	}
	if x, found := d.Find("four"); found || x != (api.Entry{}) {
		t.Errorf("Find = %v, %t", x, found)
	}
	if l := d.Names(2); !slices.Equal(l, []string{"tWo", "three", "TWO"}) {
		t.Errorf("Names(2) = %q", l)
	}
	if l := d.Names(1); !slices.Equal(l, []string{"Two", "one"}) {
		t.Errorf("Names(1) = %q", l)
	}
	if l := d.Names(3); len(l) != 0 {
		t.Errorf("Names(3) = %q", l)
	}
}

// TestP92Fold: P9.2, only the letters A to Z are the same as small ones: each byte as a name is asked for by each byte, and so are letters beyond ASCII.
func TestP92Fold(t *testing.T) {
	var names []string
	for c := range 256 {
		names = append(names, string([]byte{byte(c)}), string([]byte{'x', byte(c), 'Y'}))
	}
	names = append(names, "É", "é", "K", "k", "ſ", "s", "İ", "i", "İ", "ß", "SS", "Σ", "σ", "ς", "\xc3", "\ufffd", "\x00a", "\x00A")
	for _, name := range names {
		d := dict.New()
		if e := d.Add(name, 1); e != ok {
			t.Fatalf("Add(%q) = %d", name, e)
		}
		for _, asked := range names {
			want := api.Entry{}
			if small(asked) == small(name) {
				want = api.Entry{Name: name, Xt: 1}
			}
			if x, found := d.Find(asked); x != want || found != (want.Xt == 1) {
				t.Errorf("Find(%q) of %q = %v, %t", asked, name, x, found)
			}
			if x, found := d.In(1, asked); x != want || found != (want.Xt == 1) {
				t.Errorf("In(1, %q) of %q = %v, %t", asked, name, x, found)
			}
		}
	}
}

// TestP92Order: P9.2, the lists are searched in each order that there is of them.
func TestP92Order(t *testing.T) {
	w := fresh(t)
	w.list()
	w.list()
	for xt, name := range []string{"all", "first", "both", "ALL", "both", "second", "all", "third"} {
		w.setCurrent([]int{1, 1, 1, 2, 2, 2, 3, 3}[xt])
		w.add(name, xt)
	}
	for _, list := range []int{1, 2, 3} {
		w.setCurrent(list)
		for a := range 4 {
			for b := range 4 {
				for c := range 4 {
					w.setOrder(a, b, c)
					w.setOrder(slices.DeleteFunc([]int{a, b, c}, func(list int) bool { return list == 0 })...)
				}
			}
		}
	}
}

// TestP92Argument: P9.2 and P9.1, a name of any length is asked for without harm, and one that is cut from a longer text is the same as any other.
func TestP92Argument(t *testing.T) {
	line := strings.Repeat("dup swap ", 100)
	w := fresh(t, line, strings.Repeat("Swap", 1<<16))
	w.add(line[4:8], 1)
	w.add(line[:3], 2)
	w.add(line[:32], 3)
	w.add(line[1:32], 4)
	if x, found := w.d.Find("SWAP"); !found || x.Name != "swap" || x.Xt != 1 {
		t.Errorf("Find = %v, %t", x, found)
	}
}

// TestP93List: P9.3, lists up to the greatest number, which goes on from what is there.
func TestP93List(t *testing.T) {
	w := fresh(t, "a")
	for range mostLists + 3 {
		w.list()
		w.setCurrent(w.lists)
		w.add("a", w.lists)
	}
	if w.lists != mostLists {
		t.Errorf("there are %d lists", w.lists)
	}
	w.back(0, 5)
	w.list()
	w.setCurrent(6)
	w.back(0, 1)
	for range mostLists {
		w.list()
	}
}

// TestP93Order: P9.3, orders of each length, and of each list at each place.
func TestP93Order(t *testing.T) {
	for lists := 1; lists <= mostLists; lists++ {
		w := fresh(t, "here")
		for range lists - 1 {
			w.list()
		}
		w.setCurrent(lists)
		w.add("here", 1)
		for n := range mostOrder + 4 {
			l := make([]int, n)
			for i := range l {
				l[i] = 1 + i%lists
			}
			w.setOrder(l...)
			slices.Reverse(l)
			w.setOrder(l...)
			for _, list := range someLists() {
				if n > 0 {
					l[(list&math.MaxInt)%n] = list
					w.setOrder(l...)
					l[(list&math.MaxInt)%n] = lists
				}
			}
		}
		w.setOrder(make([]int, 1000)...)
		w.setOrder(slices.Repeat([]int{1}, 1000)...)
	}
}

// TestP93Argument: P9.3, nil and an empty order are the same, and an order is neither kept nor read beyond its length.
func TestP93Argument(t *testing.T) {
	for _, l := range [][]int{nil, {}, make([]int, 3)[:0]} {
		d := dict.New()
		d.Add("a", 1)
		if e := d.SetOrder(l); e != ok || len(d.Order()) != 0 {
			t.Errorf("SetOrder(%v) = %d: %v", l, e, d.Order())
		}
		if x, found := d.Find("a"); found || x != (api.Entry{}) {
			t.Errorf("Find with no order = %v, %t", x, found)
		}
		if x, found := d.In(1, "a"); !found || x.Xt != 1 {
			t.Errorf("In with no order = %v, %t", x, found)
		}
	}
	d := dict.New()
	d.List()
	d.List()
	whole := []int{2, 3, 3, 99, 99, 99, 99, 99, 99, 99}
	if e := d.SetOrder(whole[:3]); e != ok {
		t.Errorf("SetOrder = %d", e)
	}
	whole[0] = 77
	if l := d.Order(); !slices.Equal(l, []int{2, 3, 3}) {
		t.Errorf("Order() = %v", l)
	}
	whole[0] = 2
	d.Back(api.Mark{Words: 0, Lists: 2})
	if l := d.Order(); !slices.Equal(l, []int{2}) {
		t.Errorf("Order() = %v", l)
	}
	if !slices.Equal(whole, []int{2, 3, 3, 99, 99, 99, 99, 99, 99, 99}) {
		t.Errorf("the argument is %v", whole)
	}
}

// TestP93Current: P9.3, each list that there is, and those that there are not.
func TestP93Current(t *testing.T) {
	w := fresh(t, "a")
	for range mostLists {
		for _, list := range someLists() {
			w.setCurrent(list)
			w.add("a", list)
		}
		w.list()
	}
}

// TestP94Both: P9.4, plain cases written by hand.
func TestP94Both(t *testing.T) {
	d := dict.New()
	d.Add("a", 1)
	m := d.Mark()
	if m != (api.Mark{Words: 1, Lists: 1}) {
		t.Errorf("Mark() = %v", m)
	}
	d.Add("A", 2)
	d.Now()
	d.List()
	d.List()
	d.SetCurrent(2)
	d.SetOrder([]int{3, 2, 1, 2, 1})
	d.Add("a", 3)
	for _, x := range []struct {
		m api.Mark
		e api.Errno
	}{
		{api.Mark{Words: 4, Lists: 3}, 1}, {api.Mark{Words: 3, Lists: 4}, 1}, {api.Mark{Words: -1, Lists: 3}, 1}, {api.Mark{Words: 3, Lists: 0}, 1},
		{api.Mark{Words: 0, Lists: 0}, 1}, {api.Mark{Words: 3, Lists: 1}, 1}, {api.Mark{Words: 3, Lists: 3}, 0}, {api.Mark{Words: 3, Lists: 2}, 0},
	} {
		if e := d.Back(x.m); e != x.e {
			t.Errorf("Back(%v) = %d", x.m, e)
		}
	}
	if l := d.Order(); !slices.Equal(l, []int{2, 1, 2, 1}) || d.Current() != 2 {
		t.Errorf("after Back: %v, %d", l, d.Current())
	}
	if e := d.Back(m); e != ok || d.Mark() != m {
		t.Errorf("Back(%v) = %d, Mark() = %v", m, e, d.Mark())
	}
	if l := d.Order(); !slices.Equal(l, []int{1, 1}) || d.Current() != 1 {
		t.Errorf("after Back: %v, %d", l, d.Current())
	}
	if x, found := d.Find("a"); !found || x != (api.Entry{Name: "a", Xt: 1}) {
		t.Errorf("Find = %v, %t", x, found)
	}
}

// crowd is a dictionary of several lists, words of the same names in each, an order and a current list.
func crowd(t *testing.T, lists, current int, order ...int) *watched {
	t.Helper()
	w := fresh(t, "a", "b")
	for range lists - 1 {
		w.list()
	}
	for i := range 3 * lists {
		w.setCurrent(1 + i/3)
		w.add([]string{"a", "b", "A"}[i%3], i)
	}
	w.now()
	w.setOrder(order...)
	w.setCurrent(current)
	return w
}

// TestP94Back: P9.4, from one state to each number of words and lists; what remains can be worked on.
func TestP94Back(t *testing.T) {
	const lists = 4
	for words := -2; words <= 3*lists+2; words++ {
		for to := -2; to <= lists+2; to++ {
			w := crowd(t, lists, 1+(words&3), 4, 3, 3, 1, 2, 4, 1)
			w.back(words, to)
			w.now()
			w.list()
			w.setCurrent(w.lists)
			w.setOrder(w.lists, 1)
			w.add("b", 99)
			w.back(words, to)
		}
	}
}

// TestP94Far: P9.4, numbers far beyond what there is.
func TestP94Far(t *testing.T) {
	w := crowd(t, 2, 2, 2, 1)
	far := []int{math.MinInt, math.MinInt + 1, -1 << 32, -1<<32 + 1, 1 << 31, 1 << 32, 1<<32 + 1, 1<<32 + 2, math.MaxInt - 1, math.MaxInt}
	for _, n := range far {
		w.back(n, 2)
		w.back(1, n)
		for _, k := range far {
			w.back(n, k)
		}
	}
	w.back(1, 2)
}

// TestP94Gone: P9.4, removed lists leave the order at each place, and the current list only if it is removed.
func TestP94Gone(t *testing.T) {
	for _, order := range [][]int{{}, {1}, {3}, {3, 3}, {3, 1, 3}, {1, 3, 3, 2}, {2, 2, 2}, {3, 3, 3, 3, 3, 3, 3, 3}, {1, 2, 3, 1, 2, 3, 1, 2}} {
		for current := 1; current <= 3; current++ {
			for to := 1; to <= 3; to++ {
				w := crowd(t, 3, current, order...)
				w.back(3*to, to)
				w.list()
				w.setCurrent(1)
				w.back(1, 1)
			}
		}
	}
}

// TestP94Left: P9.4, a word that remains keeps its list, even if later lists, or no lists, are behind it.
func TestP94Left(t *testing.T) {
	w := fresh(t, "a")
	w.list()
	w.list()
	for _, list := range []int{1, 3, 1, 2, 1} {
		w.setCurrent(list)
		w.add("a", list)
	}
	for _, m := range [][2]int{{5, 2}, {2, 2}, {2, 1}, {4, 1}, {2, 3}, {1, 2}, {1, 1}} {
		w.back(m[0], m[1])
	}
}

// TestP95Hidden: P9.5, the same name in the same list hides, until it is removed; in another list it does not.
func TestP95Hidden(t *testing.T) {
	d := dict.New()
	d.List()
	d.Add("word", 1)
	var marks []api.Mark
	for xt := 2; xt <= 50; xt++ {
		marks = append(marks, d.Mark())
		d.Add([]string{"word", "WORD", "Word"}[xt%3], xt)
		if x, _ := d.Find("word"); x.Xt != xt {
			t.Errorf("Find = %v, want %d", x, xt)
		}
		d.SetCurrent(2)
		d.Add("word", -xt)
		d.SetCurrent(1)
		if x, _ := d.In(1, "word"); x.Xt != xt {
			t.Errorf("In(1) = %v, want %d", x, xt)
		}
		if x, _ := d.In(2, "word"); x.Xt != -xt {
			t.Errorf("In(2) = %v, want %d", x, -xt)
		}
	}
	for xt := 49; xt >= 1; xt-- {
		if e := d.Back(marks[xt-1]); e != ok {
			t.Errorf("Back = %d", e)
		}
		if x, _ := d.Find("word"); x.Xt != xt {
			t.Errorf("Find = %v, want %d", x, xt)
		}
		if x, found := d.In(2, "word"); found != (xt > 1) || found && x.Xt != -xt {
			t.Errorf("In(2) = %v, %t, want %d", x, found, -xt)
		}
	}
}

// noDict asks a dictionary that is none.
func noDict(t *testing.T, d *dict.Dict) {
	t.Helper()
	list, listE := d.List()
	for i, e := range []api.Errno{
		d.Add("a", 1), d.Add("", 1), d.Add(strings.Repeat("a", 99), 1), d.Now(), listE, d.SetOrder(nil), d.SetOrder([]int{1}), d.SetOrder([]int{9}),
		d.SetCurrent(0), d.SetCurrent(1), d.Back(api.Mark{}), d.Back(api.Mark{Words: 0, Lists: 1}), d.Back(api.Mark{Words: -1, Lists: -1}),
	} {
		if e != errNone {
			t.Errorf("error %d = %d", i, e)
		}
	}
	for _, name := range []string{"", "a", strings.Repeat("a", 99)} {
		if x, found := d.Find(name); found || x != (api.Entry{}) {
			t.Errorf("Find(%q) = %v, %t", name, x, found)
		}
		for _, n := range someLists() {
			if x, found := d.In(n, name); found || x != (api.Entry{}) {
				t.Errorf("In(%d, %q) = %v, %t", n, name, x, found)
			}
			if l := d.Names(n); len(l) != 0 {
				t.Errorf("Names(%d) = %q", n, l)
			}
		}
	}
	if list != 0 || len(d.Order()) != 0 || d.Current() != 0 || d.Mark() != (api.Mark{}) {
		t.Errorf("%d, %v, %d, %v", list, d.Order(), d.Current(), d.Mark())
	}
}

// TestNil: a nil Dict.
func TestNil(t *testing.T) { noDict(t, nil) }

// TestNotMade: a Dict that New did not make is taken as a nil one; the chapter says nothing of it.
func TestNotMade(t *testing.T) { noDict(t, &dict.Dict{}) }

// TestMixed: all calls in long rows, on dictionaries that are often full of lists.
func TestMixed(t *testing.T) {
	for seed := range int64(30) {
		r := rand.New(rand.NewSource(seed))
		names := []string{"a", "A", "b", "ab", "aB", "AB", "É", "é", strings.Repeat("z", longest), strings.Repeat("Z", longest), strings.Repeat("z", longest+1), ""}
		w := fresh(t, names...)
		for range 250 {
			step(w, r, names)
		}
	}
}

// step does one call, whichever.
func step(w *watched, r *rand.Rand, names []string) {
	w.Helper()
	switch r.Intn(12) {
	default:
		w.add(names[r.Intn(len(names))], r.Intn(1000)-500)
	case 0:
		w.now()
	case 1:
		w.list()
	case 2, 3:
		l := make([]int, r.Intn(mostOrder+2))
		for i := range l {
			l[i] = 1 + r.Intn(w.lists)
		}
		if len(l) > 0 && r.Intn(4) == 0 {
			l[r.Intn(len(l))] = r.Intn(mostLists+4) - 2
		}
		w.setOrder(l...)
	case 4, 5:
		w.setCurrent(r.Intn(w.lists+3) - 1)
	case 6:
		w.back(len(w.words)-r.Intn(16)+1, w.lists-r.Intn(4)+1)
	}
}

// TestMany: a full dictionary goes back step by step.
func TestMany(t *testing.T) {
	r := rand.New(rand.NewSource(9))
	w := fresh(t)
	for len(w.words) < mostWords {
		w.fill(min(len(w.words)+r.Intn(300), mostWords))
		w.list()
		w.setCurrent(1 + r.Intn(w.lists))
	}
	for len(w.words) > 0 {
		w.back(len(w.words)-min(r.Intn(300), len(w.words)), w.lists)
		w.setCurrent(1 + r.Intn(w.lists))
		w.add("word7", len(w.words))
		w.back(max(len(w.words)-2, 0), w.lists)
	}
}
