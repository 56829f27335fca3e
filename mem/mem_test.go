package mem_test

import (
	"encoding/binary"
	"math"
	"math/rand"
	"strings"
	"testing"

	"rhyton/api"
	"rhyton/mem"
)

// The errors and limits are written as numbers: a wrong name in the package cannot hide behind the same name here.
const (
	ok      = api.Errno(0)
	errArg  = api.Errno(1)
	errNone = api.Errno(2)
	thRoom  = api.Errno(-8)
	thMem   = api.Errno(-9)
	thAlign = api.Errno(-23)

	width     = 8
	leastSize = 1024
	mostSize  = 65536
	spare     = 512

	least    = api.Cell(math.MinInt64)
	greatest = api.Cell(math.MaxInt64)
)

// model is a memory as the chapter describes it.
type model struct {
	bytes []byte
	here  int64
}

// has tells whether the n bytes from at on exist. Without signs, the sum of two numbers that are not negative does not wrap around.
func (o *model) has(at, n api.Cell) bool {
	return n >= 0 && at >= 0 && uint64(at)+uint64(n) <= uint64(len(o.bytes))
}

func (o *model) cell(at api.Cell) api.Errno {
	switch {
	case !o.has(at, width):
		return thMem
	case at&(width-1) != 0:
		return thAlign
	}
	return ok
}

func (o *model) part(at, n api.Cell) api.Errno {
	if o.has(at, n) {
		return ok
	}
	return thMem
}

func (o *model) allot(n api.Cell) api.Errno {
	for to := int64(0); to <= int64(len(o.bytes)-spare); to++ {
		if api.Cell(to-o.here) == n {
			o.here = to
			return ok
		}
	}
	return thRoom
}

// watched is a memory and its model: what is done to it is done to both, and both are held against each other.
type watched struct {
	*testing.T
	m *mem.Mem
	o *model
}

func newWatched(t *testing.T, size int) *watched {
	t.Helper()
	m, e := mem.New(size)
	if e != ok || m == nil {
		t.Fatalf("New(%d) = %v, %d", size, m, e)
	}
	return &watched{t, m, &model{bytes: make([]byte, size)}}
}

// filled has another byte at each address nearby, so that a byte at a wrong place is seen.
func filled(t *testing.T, size int) *watched {
	t.Helper()
	w := newWatched(t, size)
	for at := range size {
		w.o.bytes[at] = byte(at*7 + at>>8*13 + 1)
	}
	if e := w.m.Write(0, string(w.o.bytes)); e != ok {
		t.Fatalf("Write of the whole memory = %d", e)
	}
	w.same("Write of the whole memory")
	return w
}

// same holds all bytes, here and the size against the model.
func (w *watched) same(after string, args ...any) {
	w.Helper()
	size := len(w.o.bytes)
	s, e := w.m.Text(0, api.Cell(size))
	if s == string(w.o.bytes) && e == ok && w.m.Here() == api.Cell(w.o.here) && w.m.Size() == size {
		return
	}
	w.Errorf(after+": here is %d, want %d; the size is %d, want %d; Text's error is %d", append(args, w.m.Here(), w.o.here, w.m.Size(), size, e)...)
	for at := range min(size, len(s)) {
		if s[at] != w.o.bytes[at] {
			w.Fatalf("the byte at %d is %d, want %d", at, s[at], w.o.bytes[at])
		}
	}
	w.FailNow()
}

func (w *watched) error(got, want api.Errno, call string, args ...any) {
	w.Helper()
	if got != want {
		w.Errorf(call+" = %d, want %d", append(args, got, want)...)
	}
	w.same(call, args...)
}

func (w *watched) get(at api.Cell) {
	w.Helper()
	var want api.Cell
	e := w.o.cell(at)
	if e == ok {
		want = api.Cell(binary.LittleEndian.Uint64(w.o.bytes[at:]))
	}
	got, ge := w.m.Get(at)
	if got != want {
		w.Errorf("Get(%d) = %d, want %d", at, got, want)
	}
	w.error(ge, e, "Get(%d)", at)
}

func (w *watched) put(at, x api.Cell) {
	w.Helper()
	e := w.o.cell(at)
	if e == ok {
		binary.LittleEndian.PutUint64(w.o.bytes[at:], uint64(x))
	}
	w.error(w.m.Put(at, x), e, "Put(%d, %d)", at, x)
}

func (w *watched) getByte(at api.Cell) {
	w.Helper()
	var want byte
	e := w.o.part(at, 1)
	if e == ok {
		want = w.o.bytes[at]
	}
	got, ge := w.m.GetByte(at)
	if got != want {
		w.Errorf("GetByte(%d) = %d, want %d", at, got, want)
	}
	w.error(ge, e, "GetByte(%d)", at)
}

func (w *watched) putByte(at api.Cell, c byte) {
	w.Helper()
	e := w.o.part(at, 1)
	if e == ok {
		w.o.bytes[at] = c
	}
	w.error(w.m.PutByte(at, c), e, "PutByte(%d, %d)", at, c)
}

func (w *watched) text(at, n api.Cell) {
	w.Helper()
	want := ""
	e := w.o.part(at, n)
	if e == ok {
		want = string(w.o.bytes[at : at+n])
	}
	got, ge := w.m.Text(at, n)
	if got != want {
		w.Errorf("Text(%d, %d) = %q, want %q", at, n, got, want)
	}
	w.error(ge, e, "Text(%d, %d)", at, n)
}

func (w *watched) write(at api.Cell, s string) {
	w.Helper()
	e := w.o.part(at, api.Cell(len(s)))
	for i := 0; e == ok && i < len(s); i++ {
		w.o.bytes[int(at)+i] = s[i]
	}
	w.error(w.m.Write(at, s), e, "Write(%d, %.20q)", at, s)
}

func (w *watched) fill(at, n api.Cell, c byte) {
	w.Helper()
	e := w.o.part(at, n)
	for i := api.Cell(0); e == ok && i < n; i++ {
		w.o.bytes[at+i] = c
	}
	w.error(w.m.Fill(at, n, c), e, "Fill(%d, %d, %d)", at, n, c)
}

func (w *watched) move(from, to, n api.Cell) {
	w.Helper()
	e := w.o.part(from, n)
	if e == ok {
		e = w.o.part(to, n)
	}
	before := string(w.o.bytes)
	for i := api.Cell(0); e == ok && i < n; i++ {
		w.o.bytes[to+i] = before[from+i]
	}
	w.error(w.m.Move(from, to, n), e, "Move(%d, %d, %d)", from, to, n)
}

func (w *watched) allot(n api.Cell) {
	w.Helper()
	w.error(w.m.Allot(n), w.o.allot(n), "Allot(%d)", n)
}

func (w *watched) align() {
	w.Helper()
	n := api.Cell(0)
	for (w.o.here+int64(n))&(width-1) != 0 {
		n++
	}
	w.error(w.m.Align(), w.o.allot(n), "Align()")
}

func (w *watched) comma(x api.Cell) {
	w.Helper()
	at, e := w.o.here, thAlign
	if at&(width-1) == 0 {
		e = w.o.allot(width)
	}
	if e == ok {
		binary.LittleEndian.PutUint64(w.o.bytes[at:], uint64(x))
	}
	w.error(w.m.Comma(x), e, "Comma(%d)", x)
}

func (w *watched) ccomma(c byte) {
	w.Helper()
	at := w.o.here
	e := w.o.allot(1)
	if e == ok {
		w.o.bytes[at] = c
	}
	w.error(w.m.CComma(c), e, "CComma(%d)", c)
}

// edges are the numbers at which the answers change for a memory of that size, and great ones that wrap around or are cut.
func edges(size api.Cell) []api.Cell {
	l := []api.Cell{
		least, least + 1, least + 7, least + 8, least + size, -1 << 61, -1<<32 - 8, -1 << 32, -1<<32 + 8, -1 << 31, -mostSize, -size, -size + 1, -spare, -9,
		31, 32, 255, 256, 257, 1 << 17, 1<<31 - 8, 1<<31 - 1, 1 << 31, 1<<32 - 8, 1<<32 - 1, 1 << 32, 1<<32 + 8, 1<<32 + size, 1 << 61, 1 << 62, greatest - size, greatest - size + 1,
	}
	for i := range api.Cell(9) {
		l = append(l, -8+i, 1+i, 9+i, size-spare-9+i, size-spare+i, size-17+i, size-8+i, size+1+i, greatest-i)
	}
	return l
}

func someCells() []api.Cell {
	return []api.Cell{0, 1, -1, 255, 256, -256, 0x0102030405060708, -0x0102030405060708, 0x7F80FF0001FE8081, 1 << 31, 1 << 32, least, least + 1, greatest}
}

// TestP51New: P5.1, which sizes are taken, and what a memory is at first.
func TestP51New(t *testing.T) {
	for size := -100; size <= mostSize+3000; size++ {
		m, e := mem.New(size)
		if size < leastSize || size > mostSize || size%width != 0 {
			if m != nil || e != errArg {
				t.Fatalf("New(%d) = %v, %d", size, m, e)
			}
			continue
		}
		if m == nil || e != ok || m.Size() != size || m.Here() != 0 {
			t.Fatalf("New(%d) = %v, %d", size, m, e)
		}
	}
	for _, size := range []int{math.MinInt, math.MinInt + 1024, -65536, -1024, -1024 - 1<<32, 1<<17 + 1024, 1 << 31, 1 << 32, 1<<32 + 1024, 1<<32 + 65536, 1 << 62, math.MaxInt - 7, math.MaxInt} {
		if m, e := mem.New(size); m != nil || e != errArg {
			t.Errorf("New(%d) = %v, %d", size, m, e)
		}
	}
}

// TestP51Zero: P5.1, all bytes are 0 at first, also after another memory was used.
func TestP51Zero(t *testing.T) {
	for _, size := range []int{leastSize, leastSize + 8, 4096, mostSize - 8, mostSize, leastSize} {
		w := newWatched(t, size)
		w.same("New(%d)", size)
		for at := range size {
			if c, e := w.m.GetByte(api.Cell(at)); c != 0 || e != ok {
				t.Fatalf("GetByte(%d) = %d, %d in a new memory of %d bytes", at, c, e, size)
			}
		}
		w.fill(0, api.Cell(size), 255)
		w.allot(100)
	}
}

// TestP51Spare: P5.1, all but the last 512 bytes can be allocated.
func TestP51Spare(t *testing.T) {
	for _, size := range []int{leastSize, leastSize + 8, 4096, mostSize} {
		room := api.Cell(size - spare)
		m, _ := mem.New(size)
		if e := m.Allot(room + 1); e != thRoom || m.Here() != 0 {
			t.Errorf("Allot(%d) of %d bytes = %d, here is %d", room+1, size, e, m.Here())
		}
		if e := m.Allot(room); e != ok || m.Here() != room {
			t.Errorf("Allot(%d) of %d bytes = %d, here is %d", room, size, e, m.Here())
		}
		if e := m.Allot(1); e != thRoom || m.Here() != room {
			t.Errorf("Allot(1) of a full memory of %d bytes = %d, here is %d", size, e, m.Here())
		}
	}
}

// TestExamples: the chapter's examples.
func TestExamples(t *testing.T) {
	m, _ := mem.New(1024)
	if e := m.Put(8, -2); e != ok {
		t.Errorf("Put(8, -2) = %d", e)
	}
	if c, e := m.GetByte(8); c != 254 || e != ok {
		t.Errorf("GetByte(8) = %d, %d", c, e)
	}
	if e := m.Put(4, 1); e != thAlign {
		t.Errorf("Put(4, 1) = %d", e)
	}
	if x, e := m.Get(1024); x != 0 || e != thMem {
		t.Errorf("Get(1024) = %d, %d", x, e)
	}
}

// TestP52LittleEndian: P5.2, plain cases written by hand: the lowest byte comes first.
func TestP52LittleEndian(t *testing.T) {
	for _, x := range []struct {
		x api.Cell
		s string
	}{
		{0, "\x00\x00\x00\x00\x00\x00\x00\x00"},
		{1, "\x01\x00\x00\x00\x00\x00\x00\x00"},
		{-1, "\xff\xff\xff\xff\xff\xff\xff\xff"},
		{-2, "\xfe\xff\xff\xff\xff\xff\xff\xff"},
		{0x0102030405060708, "\x08\x07\x06\x05\x04\x03\x02\x01"},
		{0x7F80FF0001FE8081, "\x81\x80\xfe\x01\x00\xff\x80\x7f"},
		{greatest, "\xff\xff\xff\xff\xff\xff\xff\x7f"},
		{least, "\x00\x00\x00\x00\x00\x00\x00\x80"},
	} {
		m, _ := mem.New(1024)
		m.Put(16, x.x)
		if s, e := m.Text(15, 10); s != "\x00"+x.s+"\x00" || e != ok {
			t.Errorf("Text after Put(16, %d) = %q, %d", x.x, s, e)
		}
		m.Write(1016, x.s)
		if got, e := m.Get(1016); got != x.x || e != ok {
			t.Errorf("Get of %q = %d, %d", x.s, got, e)
		}
	}
}

// TestP52Cells: P5.2, Get and Put at all addresses nearby and at the edges.
func TestP52Cells(t *testing.T) {
	for _, size := range []int{leastSize, leastSize + 8} {
		w := filled(t, size)
		for at := api.Cell(-20); at < api.Cell(size)+20; at++ {
			w.get(at)
			w.put(at, at*0x0101010101010101)
			w.get(at)
		}
		for _, at := range edges(api.Cell(size)) {
			for _, x := range someCells() {
				w.put(at, x)
				w.get(at)
			}
		}
	}
}

// TestP52CellsBetween: P5.2, where the bytes do not exist and the address is not that of a cell either, the first one is told.
func TestP52CellsBetween(t *testing.T) {
	m, _ := mem.New(1024)
	for _, x := range []struct {
		at   api.Cell
		want api.Errno
	}{{-8, thMem}, {-1, thMem}, {-4, thMem}, {0, ok}, {1, thAlign}, {7, thAlign}, {8, ok}, {1008, ok}, {1009, thAlign}, {1015, thAlign}, {1016, ok}, {1017, thMem}, {1023, thMem}, {1024, thMem}, {1025, thMem}, {greatest, thMem}, {greatest - 7, thMem}, {least, thMem}, {least + 1, thMem}} {
		if e := m.Put(x.at, 1); e != x.want {
			t.Errorf("Put(%d, 1) = %d, want %d", x.at, e, x.want)
		}
		if _, e := m.Get(x.at); e != x.want {
			t.Errorf("Get(%d) = %d, want %d", x.at, e, x.want)
		}
	}
}

// TestP52Bytes: P5.2, GetByte and PutByte at all addresses and at the edges.
func TestP52Bytes(t *testing.T) {
	w := filled(t, leastSize)
	for at := api.Cell(-20); at < leastSize+20; at++ {
		w.getByte(at)
		w.putByte(at, byte(at)^0x5A)
		w.getByte(at)
	}
	for _, at := range edges(leastSize) {
		for _, c := range []byte{0, 1, 127, 128, 255} {
			w.putByte(at, c)
			w.getByte(at)
		}
	}
	for c := range 256 {
		w.putByte(77, byte(c))
	}
}

// TestP52Ranges: P5.2, Text and Fill of every edge and length.
func TestP52Ranges(t *testing.T) {
	w := filled(t, leastSize)
	for i, at := range edges(leastSize) {
		for j, n := range edges(leastSize) {
			w.text(at, n)
			w.fill(at, n, byte(i*3+j))
		}
	}
	w = filled(t, leastSize)
	for at := api.Cell(0); at <= leastSize; at += 3 {
		for n := api.Cell(0); at+n <= leastSize+1; n += 31 {
			w.text(at, n)
		}
		w.text(at, leastSize-at)
		w.text(at, leastSize-at+1)
	}
}

// TestP52Write: P5.2, texts of every length near the ends, and with any bytes.
func TestP52Write(t *testing.T) {
	w := filled(t, leastSize)
	for i, at := range edges(leastSize) {
		for _, n := range []int{0, 1, 2, 7, 8, 9, 16, 17, 511, 512, 513, 1007, 1008, 1015, 1016, 1023, 1024, 1025, 2000} {
			w.write(at, strings.Repeat(string([]byte{byte(i), 0, 255}), n/3+1)[:n])
		}
	}
	w.write(10, "a\x00b\xff\xfe\u00e9 \n")
	w.text(10, 9)
}

// TestP52Nothing: P5.2, for no bytes, an address up to the size will do.
func TestP52Nothing(t *testing.T) {
	m, _ := mem.New(1024)
	for _, x := range []struct {
		at   api.Cell
		want api.Errno
	}{{0, ok}, {1, ok}, {1023, ok}, {1024, ok}, {1025, thMem}, {-1, thMem}, {least, thMem}, {greatest, thMem}, {1 << 32, thMem}} {
		s, e := m.Text(x.at, 0)
		if s != "" || e != x.want {
			t.Errorf("Text(%d, 0) = %q, %d, want %d", x.at, s, e, x.want)
		}
		if e := m.Write(x.at, ""); e != x.want {
			t.Errorf("Write(%d, \"\") = %d, want %d", x.at, e, x.want)
		}
		if e := m.Fill(x.at, 0, 9); e != x.want {
			t.Errorf("Fill(%d, 0, 9) = %d, want %d", x.at, e, x.want)
		}
		if e := m.Move(x.at, 0, 0); e != x.want {
			t.Errorf("Move(%d, 0, 0) = %d, want %d", x.at, e, x.want)
		}
		if e := m.Move(0, x.at, 0); e != x.want {
			t.Errorf("Move(0, %d, 0) = %d, want %d", x.at, e, x.want)
		}
	}
}

// TestP52MoveByHand: P5.2, plain cases written by hand: apart, overlapping both ways, onto itself.
func TestP52MoveByHand(t *testing.T) {
	for _, x := range []struct {
		from, to, n api.Cell
		want        string
	}{
		{0, 4, 3, "abcdabch"}, {4, 0, 3, "efgdefgh"}, {0, 2, 5, "ababcdeh"}, {0, 1, 7, "aabcdefg"}, {2, 0, 5, "cdefgfgh"}, {1, 0, 7, "bcdefghh"}, {3, 3, 4, "abcdefgh"}, {5, 2, 0, "abcdefgh"}, {0, 7, 1, "abcdefga"},
	} {
		m, _ := mem.New(1024)
		m.Write(0, "abcdefgh")
		e := m.Move(x.from, x.to, x.n)
		if s, _ := m.Text(0, 9); s != x.want+"\x00" || e != ok {
			t.Errorf("Move(%d, %d, %d) of abcdefgh = %q, %d, want %q", x.from, x.to, x.n, s, e, x.want)
		}
	}
}

// TestP52Move: P5.2, all moves of a few bytes nearby and at the end, those of the edges, and long ones.
func TestP52Move(t *testing.T) {
	w := filled(t, leastSize)
	for from := api.Cell(-1); from < 13; from++ {
		for to := api.Cell(-1); to < 13; to++ {
			for n := api.Cell(-1); n < 13; n++ {
				w.move(from, to, n)
				w.move(leastSize-from, leastSize-to, n)
			}
			w.write(0, "abcdefghijklmnopqrstuvwxyz")
			w.write(leastSize-26, "abcdefghijklmnopqrstuvwxyz")
		}
	}
	great := []api.Cell{least, least + 1, -leastSize, -1, 0, 1, 8, 511, 512, 1023, 1024, 1025, 1 << 32, 1<<32 + 1, greatest - 1023, greatest}
	for _, from := range great {
		for _, to := range great {
			for _, n := range great {
				w.move(from, to, n)
			}
		}
	}
	for n := api.Cell(0); n <= leastSize; n += 61 {
		w = filled(t, leastSize)
		w.move(0, leastSize-n, n)
		w.move(leastSize-n, 0, n)
	}
}

// TestP53Allot: P5.3, from each place, to every place and beyond.
func TestP53Allot(t *testing.T) {
	for _, size := range []int{leastSize, leastSize + 8} {
		w := filled(t, size)
		for _, here := range []api.Cell{0, 1, 7, 8, 9, 255, 256, api.Cell(size) - spare - 1, api.Cell(size) - spare} {
			for _, n := range edges(api.Cell(size)) {
				w.allot(here - w.m.Here())
				w.allot(n)
				w.allot(here - w.m.Here())
				w.allot(-n)
			}
			for to := api.Cell(-20); to < api.Cell(size)+20; to++ {
				w.allot(here - w.m.Here())
				w.allot(to - here)
			}
		}
	}
}

// TestP53AllotSteps: P5.3, plain cases written by hand.
func TestP53AllotSteps(t *testing.T) {
	m, _ := mem.New(1024)
	for _, x := range []struct {
		n    api.Cell
		want api.Errno
		here api.Cell
	}{
		{-1, thRoom, 0}, {0, ok, 0}, {3, ok, 3}, {-4, thRoom, 3}, {510, thRoom, 3}, {509, ok, 512}, {1, thRoom, 512}, {0, ok, 512}, {greatest, thRoom, 512}, {least, thRoom, 512},
		{greatest - 511, thRoom, 512}, {-513, thRoom, 512}, {-512, ok, 0}, {513, thRoom, 0}, {512, ok, 512}, {-500, ok, 12}, {1 << 32, thRoom, 12}, {-1 << 32, thRoom, 12}, {-12, ok, 0}, {least, thRoom, 0},
	} {
		if e := m.Allot(x.n); e != x.want || m.Here() != x.here {
			t.Errorf("Allot(%d) = %d, want %d; here is %d, want %d", x.n, e, x.want, m.Here(), x.here)
		}
	}
}

// TestP53Align: P5.3, from every place, up to the last one.
func TestP53Align(t *testing.T) {
	w := filled(t, leastSize)
	for here := api.Cell(0); here <= leastSize-spare; here++ {
		w.allot(here - w.m.Here())
		w.align()
		if want := (here + 7) / 8 * 8; w.m.Here() != want {
			t.Errorf("Align() at %d leads to %d, want %d", here, w.m.Here(), want)
		}
		w.align()
	}
}

// TestP53Commas: P5.3, from every place, up to the last one.
func TestP53Commas(t *testing.T) {
	w := filled(t, leastSize)
	for here := api.Cell(0); here <= leastSize-spare; here++ {
		for _, x := range someCells() {
			w.allot(here - w.m.Here())
			w.comma(x)
			w.allot(here - w.m.Here())
			w.ccomma(byte(x >> 3))
		}
	}
}

// TestP53CommasByHand: P5.3, plain cases written by hand; where neither the place nor the room will do, the place is told.
func TestP53CommasByHand(t *testing.T) {
	m, _ := mem.New(1024)
	steps := []struct{ got, want api.Errno }{
		{m.Comma(-2), ok}, {m.CComma(7), ok}, {m.Comma(1), thAlign}, {m.CComma(8), ok}, {m.Align(), ok}, {m.Comma(3), ok},
		{m.Allot(480), ok}, {m.Comma(4), ok}, {m.Comma(5), thRoom}, {m.CComma(6), thRoom}, {m.Align(), ok}, {m.Allot(-1), ok}, {m.Comma(1), thAlign}, {m.CComma(9), ok}, {m.CComma(9), thRoom},
	}
	for i, x := range steps {
		if x.got != x.want {
			t.Errorf("step %d = %d, want %d", i, x.got, x.want)
		}
	}
	if m.Here() != 512 {
		t.Errorf("here is %d", m.Here())
	}
	want := "\xfe\xff\xff\xff\xff\xff\xff\xff\x07\x08\x00\x00\x00\x00\x00\x00\x03\x00\x00\x00\x00\x00\x00\x00"
	if s, _ := m.Text(0, 24); s != want {
		t.Errorf("the first bytes are %q, want %q", s, want)
	}
	if s, _ := m.Text(504, 16); s != "\x04\x00\x00\x00\x00\x00\x00\x09"+strings.Repeat("\x00", 8) {
		t.Errorf("the bytes from 504 on are %q", s)
	}
}

// TestP53Beside: P5.1 and P5.3, bytes that are not allocated can be used, allocating does not change them, and neither does giving them back.
func TestP53Beside(t *testing.T) {
	w := filled(t, leastSize)
	w.put(leastSize-width, -1)
	w.putByte(leastSize-spare, 1)
	w.allot(leastSize - spare)
	w.allot(spare - leastSize)
	w.putByte(0, 2)
	w.fill(0, leastSize, 3)
}

// TestNil: what each call answers of no memory, whatever it is given.
func TestNil(t *testing.T) {
	var m *mem.Mem
	if m.Size() != 0 || m.Here() != 0 {
		t.Errorf("Size is %d, Here is %d", m.Size(), m.Here())
	}
	for _, at := range []api.Cell{least, -8, -1, 0, 1, 8, 1024, greatest} {
		x, e := m.Get(at)
		c, ce := m.GetByte(at)
		s, se := m.Text(at, at)
		if x != 0 || e != errNone || c != 0 || ce != errNone || s != "" || se != errNone {
			t.Errorf("Get, GetByte and Text at %d: %d, %d, %d, %d, %q, %d", at, x, e, c, ce, s, se)
		}
		for i, e := range []api.Errno{m.Put(at, 1), m.PutByte(at, 1), m.Write(at, ""), m.Write(at, "abc"), m.Fill(at, at, 1), m.Fill(0, at, 1), m.Move(at, 0, 0), m.Move(0, 0, at), m.Allot(at), m.Align(), m.Comma(at), m.CComma(1)} {
			if e != errNone {
				t.Errorf("call %d with %d = %d", i, at, e)
			}
		}
	}
}

// TestUnmade: a memory that New did not make has no bytes, and no call panics on it.
func TestUnmade(t *testing.T) {
	m := new(mem.Mem)
	for _, at := range edges(0) {
		_, ge := m.Get(at)
		_, be := m.GetByte(at)
		for i, e := range []api.Errno{ge, be, m.Put(at, 1), m.PutByte(at, 1), m.Write(at, "a"), m.Fill(at, 1, 1), m.Move(at, 0, 1), m.Move(0, at, 1), m.Comma(at), m.CComma(1), m.Align(), m.Allot(at)} {
			if e == ok {
				t.Errorf("call %d with %d = %d", i, at, e)
			}
		}
	}
	if m.Size() != 0 || m.Here() != 0 {
		t.Errorf("Size is %d, Here is %d", m.Size(), m.Here())
	}
}

// TestP54Own: P5.4, memories share nothing with each other, and a text that was told does not change any more.
func TestP54Own(t *testing.T) {
	a, b := filled(t, leastSize), newWatched(t, leastSize)
	a.write(100, "hello")
	s, _ := a.m.Text(100, 5)
	b.fill(0, leastSize, 9)
	b.allot(33)
	a.same("Fill and Allot of another memory")
	a.fill(0, leastSize, 8)
	b.same("Fill of another memory")
	if s != "hello" {
		t.Errorf("the text became %q", s)
	}
}

// TestP54Stays: P5.4, long rows of all calls at all kinds of places, always the same rows: only what is stored changes.
func TestP54Stays(t *testing.T) {
	source := rand.New(rand.NewSource(5))
	for _, size := range []int{leastSize, leastSize + 8, 3000} {
		w := filled(t, size)
		far := edges(api.Cell(size))
		place := func() api.Cell {
			switch source.Intn(4) {
			case 0:
				return far[source.Intn(len(far))]
			case 1:
				return api.Cell(source.Intn(size/width+2)) * width
			}
			return api.Cell(source.Intn(size + 8))
		}
		for range 20000 {
			w.random(source, place)
		}
	}
}

// random does one of the calls.
func (w *watched) random(source *rand.Rand, place func() api.Cell) {
	w.Helper()
	n, c := api.Cell(source.Intn(40)), byte(source.Intn(256))
	if source.Intn(4) == 0 {
		n = place()
	}
	switch source.Intn(12) {
	case 0:
		w.get(place())
	case 1:
		w.put(place(), api.Cell(source.Uint64()))
	case 2:
		w.getByte(place())
	case 3:
		w.putByte(place(), c)
	case 4:
		w.text(place(), n)
	case 5:
		w.write(place(), strings.Repeat(string([]byte{c}), source.Intn(20))+"end")
	case 6:
		w.fill(place(), n, c)
	case 7:
		w.move(place(), place(), n)
	case 8:
		w.allot(place() - w.m.Here())
	case 9:
		w.align()
	case 10:
		w.comma(api.Cell(source.Uint64()))
	case 11:
		w.ccomma(c)
	}
}
