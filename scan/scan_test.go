package scan_test

import (
	"math"
	"math/rand"
	"regexp"
	"strconv"
	"strings"
	"testing"

	"rhyton/scan"
)

// The models match patterns. These go by characters, so each byte is made the character of its number first: then one character is one byte, whatever the bytes are.
func wide(s string) []rune {
	l := make([]rune, len(s))
	for i := range len(s) {
		l[i] = rune(s[i])
	}
	return l
}

func narrow(s string) string {
	var l []byte
	for _, c := range s {
		l = append(l, byte(c))
	}
	return string(l)
}

// from is the index that in counts as, by the chapter's words.
func from(s string, in int) int {
	if in < 0 {
		return 0
	}
	if in > len(s) {
		return len(s)
	}
	return in
}

func modelPart(s string, in int, end byte) (string, int) {
	part, rest, _ := strings.Cut(s[from(s, in):], string([]byte{end}))
	return part, len(s) - len(rest)
}

var wordPattern = regexp.MustCompile(`^[\x00-\x20]*([^\x00-\x20]*)[\x00-\x20]?`)

func modelWord(s string, in int) (string, int) {
	first := from(s, in)
	m := wordPattern.FindStringSubmatch(string(wide(s[first:])))
	return narrow(m[1]), first + len(narrow(m[0]))
}

// A `\` that only the last choice matches is one at the end.
var turnedPattern = regexp.MustCompile(`(?s)^(?:\\x[0-9A-Fa-f]{2}|\\.|.)`)

func modelTurned(s string, in int) (string, int) {
	next := from(s, in)
	rest := string(wide(s[next:]))
	text := ""
	for rest != "" {
		m := turnedPattern.FindString(rest)
		rest = rest[len(m):]
		next += len(narrow(m))
		if m == `"` {
			break
		}
		text += meaning(narrow(m))
	}
	return text, next
}

func meaning(m string) string {
	signs := map[string]string{`\`: "", `\n`: "\x0a", `\t`: "\x09", `\r`: "\x0d", `\z`: "\x00", `\q`: "\x22"}
	if sign, ok := signs[m]; ok {
		return sign
	}
	switch len(m) {
	case 4:
		n, _ := strconv.ParseUint(m[2:], 16, 8)
		return string([]byte{byte(n)})
	case 2:
		return m[1:]
	}
	return m
}

func same(t *testing.T, got string, next int, want string, wantNext int, call string, args ...any) {
	t.Helper()
	if got != want || next != wantNext {
		t.Errorf(call+" = %q, %d, want %q, %d", append(args, got, next, want, wantNext)...)
	}
}

func checkPart(t *testing.T, s string, in int, end byte, want string, wantNext int) {
	t.Helper()
	got, next := scan.Part(s, in, end)
	same(t, got, next, want, wantNext, "Part(%q, %d, %q)", s, in, end)
}

func checkWord(t *testing.T, s string, in int, want string, wantNext int) {
	t.Helper()
	got, next := scan.Word(s, in)
	same(t, got, next, want, wantNext, "Word(%q, %d)", s, in)
}

func checkTurned(t *testing.T, s string, in int, want string, wantNext int) {
	t.Helper()
	got, next := scan.Turned(s, in)
	same(t, got, next, want, wantNext, "Turned(%q, %d)", s, in)
}

// inputs are the indices from which a text is read: all of it, and those outside.
func inputs(s string) []int {
	l := []int{math.MinInt, math.MinInt + 1, -1 << 32, -256, -2, -1}
	for in := 0; in <= len(s)+2; in++ {
		l = append(l, in)
	}
	return append(l, len(s)+256, len(s)+1<<32, math.MaxInt-1, math.MaxInt)
}

// texts are all texts of so many of these bytes, or of fewer.
func texts(bytes string, most int) []string {
	all := []string{""}
	last := all
	for range most {
		var longer []string
		for _, s := range last {
			for i := range len(bytes) {
				longer = append(longer, s+bytes[i:i+1])
			}
		}
		all = append(all, longer...)
		last = longer
	}
	return all
}

// mixed is a text of random ones of these bytes, always the same one.
func mixed(r *rand.Rand, bytes string, length int) string {
	l := make([]byte, length)
	for i := range l {
		l[i] = bytes[r.Intn(len(bytes))]
	}
	return string(l)
}

func allBytes() string {
	l := make([]byte, 256)
	for i := range l {
		l[i] = byte(i)
	}
	return string(l)
}

// longTexts are some of random bytes: of all, of those that matter to words, and of those that matter to escape sequences.
func longTexts() []string {
	r := rand.New(rand.NewSource(7))
	var l []string
	for range 300 {
		for _, bytes := range []string{allBytes(), "ab \t\x00!\xff", `\"x0aF nq`} {
			l = append(l, mixed(r, bytes, r.Intn(60)))
		}
	}
	return l
}

// TestP71Part: P7.1, plain cases written by hand.
func TestP71Part(t *testing.T) {
	checkPart(t, "a b) c", 0, ')', "a b", 4)
	checkPart(t, "a b) c", 4, ')', " c", 6)
	checkPart(t, "a b) c", 3, ')', "", 4)
	checkPart(t, "a b) c", 2, ')', "b", 4)
	checkPart(t, "a))b", 0, ')', "a", 2)
	checkPart(t, "a))b", 2, ')', "", 3)
	checkPart(t, ")", 0, ')', "", 1)
	checkPart(t, ")", 1, ')', "", 1)
	checkPart(t, "  a", 0, ' ', "", 1)
	checkPart(t, "a\tb c", 0, ' ', "a\tb", 4)
	checkPart(t, `a\"b`, 0, '"', `a\`, 3)
	checkPart(t, "Aa", 0, 'a', "A", 2)
	checkPart(t, "a\x00b", 0, 0, "a", 2)
	checkPart(t, "a\xffb", 0, 0xff, "a", 2)
	checkPart(t, "ä", 0, 0xa4, "\xc3", 2)
	checkPart(t, "", 0, 'a', "", 0)
}

// TestP71PartIn: P7.1, indices that are none of the text.
func TestP71PartIn(t *testing.T) {
	for _, in := range []int{math.MinInt, -5, -1, 0} {
		checkPart(t, "ab)c", in, ')', "ab", 3)
		checkPart(t, "", in, ')', "", 0)
	}
	for _, in := range []int{4, 5, 1 << 32, math.MaxInt} {
		checkPart(t, "ab)c", in, ')', "", 4)
		checkPart(t, "", in, ')', "", 0)
	}
}

// TestP71PartAll: P7.1, short texts and long ones, from every index, up to every byte that matters.
func TestP71PartAll(t *testing.T) {
	for _, s := range append(texts("a) \xe9\x00", 4), longTexts()...) {
		for _, in := range inputs(s) {
			for _, end := range []byte(`a) "\` + "\x00\xe9\x7f\xff") {
				want, next := modelPart(s, in, end)
				checkPart(t, s, in, end, want, next)
			}
		}
	}
}

// TestP71PartEnds: P7.1, every byte may be the delimiter, and no other byte counts as it.
func TestP71PartEnds(t *testing.T) {
	s := allBytes()
	for end := range 256 {
		checkPart(t, s, 0, byte(end), s[:end], end+1)
		checkPart(t, s, end, byte(end), "", end+1)
		checkPart(t, s, end+1, byte(end), s[end+1:], 256)
	}
}

// TestP71Word: P7.1, plain cases written by hand.
func TestP71Word(t *testing.T) {
	checkWord(t, "  dup  1", 0, "dup", 6)
	checkWord(t, "  dup  1", 6, "1", 8)
	checkWord(t, "  dup  1", 8, "", 8)
	checkWord(t, "  dup  1", 3, "up", 6)
	checkWord(t, "  dup  1", 5, "1", 8)
	checkWord(t, "dup", 0, "dup", 3)
	checkWord(t, "dup ", 0, "dup", 4)
	checkWord(t, "dup ", 3, "", 4)
	checkWord(t, "dup   ", 0, "dup", 4)
	checkWord(t, "dup   ", 4, "", 6)
	checkWord(t, "   ", 0, "", 3)
	checkWord(t, " ", 0, "", 1)
	checkWord(t, "", 0, "", 0)
	checkWord(t, "\t\r\n\x00dup\x0bswap", 0, "dup", 8)
	checkWord(t, `s" a"`, 0, `s"`, 3)
	checkWord(t, "ä\u00a0ö x", 0, "ä\u00a0ö", 7)
	checkWord(t, "\x7f\x80\xff x", 0, "\x7f\x80\xff", 4)
}

// TestP71WordIn: P7.1, indices that are none of the text.
func TestP71WordIn(t *testing.T) {
	for _, in := range []int{math.MinInt, -5, -1, 0} {
		checkWord(t, " ab c", in, "ab", 4)
		checkWord(t, "  ", in, "", 2)
		checkWord(t, "", in, "", 0)
	}
	for _, in := range []int{5, 6, 1 << 32, math.MaxInt} {
		checkWord(t, " ab c", in, "", 5)
		checkWord(t, "", in, "", 0)
	}
}

// TestP71WordAll: P7.1, short texts and long ones, from every index.
func TestP71WordAll(t *testing.T) {
	for _, s := range append(texts("a! \x00\xe9", 5), longTexts()...) {
		for _, in := range inputs(s) {
			want, next := modelWord(s, in)
			checkWord(t, s, in, want, next)
		}
	}
}

// TestP71Blanks: P7.1, the bytes from 0 to 32 are skipped and end a word, and no others.
func TestP71Blanks(t *testing.T) {
	for c := range 256 {
		b := string([]byte{byte(c)})
		if c <= 32 {
			checkWord(t, "x"+b+"y", 0, "x", 2)
			checkWord(t, b+b+"y", 0, "y", 3)
			checkWord(t, b+b, 0, "", 2)
		} else {
			checkWord(t, "x"+b+"y", 0, "x"+b+"y", 3)
			checkWord(t, b+b+" y", 0, b+b, 3)
			checkWord(t, b, 0, b, 1)
		}
	}
}

// TestP72Turned: P7.2, plain cases written by hand.
func TestP72Turned(t *testing.T) {
	checkTurned(t, `a\x41\"b" c`, 0, `aA"b`, 9)
	checkTurned(t, `a\x41\"b" c`, 9, " c", 11)
	checkTurned(t, `a\x41\"b" c`, 2, `x41"b`, 9)
	checkTurned(t, `abc" d`, 0, "abc", 4)
	checkTurned(t, `"`, 0, "", 1)
	checkTurned(t, `""`, 0, "", 1)
	checkTurned(t, `""`, 1, "", 2)
	checkTurned(t, "", 0, "", 0)
	checkTurned(t, "a b\tc", 0, "a b\tc", 5)
	checkTurned(t, `\n\t\r\z\q"`, 0, "\x0a\x09\x0d\x00\x22", 11)
	checkTurned(t, `\N\T\R\Z\Q\X41"`, 0, "NTRZQX41", 15)
	checkTurned(t, `\\"a`, 0, `\`, 3)
	checkTurned(t, `\\\"a`, 0, `\"a`, 5)
	checkTurned(t, `\a\b\0\'\ \`+"\x00", 0, "ab0' \x00", 12)
	checkTurned(t, `\ä\`+"\xff", 0, "ä\xff", 5)
	checkTurned(t, `a"b"`, 2, "b", 4)
}

// TestP72Hex: P7.2, an `x` with two hexadecimal digits behind it, and with what is none.
func TestP72Hex(t *testing.T) {
	checkTurned(t, `\x4A\x4a\xFf\x00"`, 0, "JJ\xff\x00", 17)
	checkTurned(t, `\x22\x5cn"`, 0, `"\n`, 10)
	checkTurned(t, `\x414"`, 0, "A4", 6)
	checkTurned(t, `\x"`, 0, "x", 3)
	checkTurned(t, `\x4"`, 0, "x4", 4)
	checkTurned(t, `\xg1"`, 0, "xg1", 5)
	checkTurned(t, `\x1g"`, 0, "x1g", 5)
	checkTurned(t, `\x4\n"`, 0, "x4\n", 6)
	checkTurned(t, `\x\x41"`, 0, "xA", 7)
	checkTurned(t, `\\x41"`, 0, `\x41`, 6)
	checkTurned(t, `x41"`, 0, "x41", 4)
	checkTurned(t, `\x`, 0, "x", 2)
	checkTurned(t, `\x4`, 0, "x4", 3)
	checkTurned(t, `\x41`, 0, "A", 4)
}

// TestP72HexAll: P7.2, an `x` before every two bytes.
func TestP72HexAll(t *testing.T) {
	const digits = "0123456789abcdef"
	for high := range 256 {
		for low := range 256 {
			two := string([]byte{byte(high), byte(low)})
			s := `\x` + two + `"`
			if high < 128 && low < 128 {
				h := strings.Index(digits, strings.ToLower(two[:1]))
				l := strings.Index(digits, strings.ToLower(two[1:]))
				if h >= 0 && l >= 0 {
					checkTurned(t, s, 0, string([]byte{byte(16*h + l)}), 5)
					continue
				}
			}
			want, next := modelTurned(s[2:], 0)
			checkTurned(t, s, 0, "x"+want, 2+next)
		}
	}
}

// TestP72Characters: P7.2, a `\` before every byte, and every byte without it.
func TestP72Characters(t *testing.T) {
	signs := map[byte]byte{'n': 10, 't': 9, 'r': 13, 'z': 0, 'q': '"'}
	for c := range 256 {
		b := string([]byte{byte(c)})
		want := b
		if sign, ok := signs[byte(c)]; ok {
			want = string([]byte{sign})
		}
		checkTurned(t, `\`+b+`!"`, 0, want+"!", 4)
		checkTurned(t, `\`+b, 0, want, 2)
		if b != `"` && b != `\` {
			checkTurned(t, b+b+`"`, 0, b+b, 3)
		}
	}
}

// TestP72End: P7.2, a `\` at the end of the text stands for nothing, and one that an escape sequence contains is none of these.
func TestP72End(t *testing.T) {
	checkTurned(t, `\`, 0, "", 1)
	checkTurned(t, `ab\`, 0, "ab", 3)
	checkTurned(t, `ab\`, 2, "", 3)
	checkTurned(t, `ab\\`, 0, `ab\`, 4)
	checkTurned(t, `ab\\\`, 0, `ab\`, 5)
	checkTurned(t, `\x4\`, 0, "x4", 4)
	checkTurned(t, `\x\`, 0, "x", 3)
	checkTurned(t, `ab\"`, 0, `ab"`, 4)
}

// TestP72In: P7.2, indices that are none of the text, and some within an escape sequence: what is before an index does not count.
func TestP72In(t *testing.T) {
	for _, in := range []int{math.MinInt, -5, -1, 0} {
		checkTurned(t, `\nb"c`, in, "\nb", 4)
		checkTurned(t, "", in, "", 0)
	}
	for _, in := range []int{5, 6, 1 << 32, math.MaxInt} {
		checkTurned(t, `\nb"c`, in, "", 5)
		checkTurned(t, "", in, "", 0)
	}
	checkTurned(t, `\nb"c`, 1, "nb", 4)
	checkTurned(t, `\"b"c`, 1, "", 2)
	checkTurned(t, `\\"c`, 1, `"c`, 4)
}

// TestP72All: P7.2, short texts of the bytes that matter and long ones, from every index.
func TestP72All(t *testing.T) {
	for _, s := range append(texts(`\"x4Fgn`, 5), longTexts()...) {
		for _, in := range inputs(s) {
			want, next := modelTurned(s, in)
			checkTurned(t, s, in, want, next)
		}
	}
}

// TestP72Part: P7.2, without a `\` it is Part up to `"`.
func TestP72Part(t *testing.T) {
	for _, s := range append(texts(`"xn4`, 5), longTexts()...) {
		s = strings.ReplaceAll(s, `\`, "/")
		for _, in := range inputs(s) {
			want, next := scan.Part(s, in, '"')
			checkTurned(t, s, in, want, next)
		}
	}
}

func checkFold(t *testing.T, s, want string) {
	t.Helper()
	if got := scan.Fold(s); got != want {
		t.Errorf("Fold(%q) = %q, want %q", s, got, want)
	}
}

// TestP73Fold: P7.3, plain cases written by hand, and the characters beside the letters.
func TestP73Fold(t *testing.T) {
	checkFold(t, "", "")
	checkFold(t, "DUP", "dup")
	checkFold(t, "dup", "dup")
	checkFold(t, "2Dup AGAIN", "2dup again")
	checkFold(t, "ABCDEFGHIJKLMNOPQRSTUVWXYZ", "abcdefghijklmnopqrstuvwxyz")
	checkFold(t, "@AZ[`az{", "@az[`az{")
	checkFold(t, "ÄÉÜ\u212a\u0130", "ÄÉÜ\u212a\u0130")
	checkFold(t, "A\xc1\xdaZ\xff\x00", "a\xc1\xdaz\xff\x00")
}

// TestP73FoldBytes: P7.3, every byte, alone and between others.
func TestP73FoldBytes(t *testing.T) {
	const capital, small = "ABCDEFGHIJKLMNOPQRSTUVWXYZ", "abcdefghijklmnopqrstuvwxyz"
	for c := range 256 {
		b := string([]byte{byte(c)})
		want := b
		if i := strings.Index(capital, b); i >= 0 {
			want = small[i : i+1]
		}
		checkFold(t, b, want)
		checkFold(t, "xY"+b+"Zw", "xy"+want+"zw")
	}
}

// TestP73FoldTwice: P7.3, what is folded stays as it is.
func TestP73FoldTwice(t *testing.T) {
	for _, s := range longTexts() {
		checkFold(t, scan.Fold(s), scan.Fold(s))
	}
}

// TestP74Words: P7.4, the words contain all bytes that are not blanks, none of them twice, and each is read up to the end of the text.
func TestP74Words(t *testing.T) {
	for _, s := range append(texts("aB \x00\xe9", 5), longTexts()...) {
		var want []byte
		for _, c := range []byte(s) {
			if c > 32 {
				want = append(want, c)
			}
		}
		got := ""
		for at, count := 0, 0; ; count++ {
			word, next := scan.Word(s, at)
			if word == "" {
				same(t, word, next, "", len(s), "Word(%q, %d)", s, at)
				break
			}
			if next <= at || count > len(s) {
				t.Fatalf("Word(%q, %d) = %q, %d: that does not go on", s, at, word, next)
			}
			got += word
			at = next
		}
		if got != string(want) {
			t.Errorf("the words of %q are %q, want %q", s, got, want)
		}
	}
}

// TestSame: the calls are pure: the same arguments answer the same, whatever was asked in between.
func TestSame(t *testing.T) {
	for range 3 {
		checkPart(t, "a)B", 0, ')', "a", 2)
		checkWord(t, " a B", 0, "a", 3)
		checkTurned(t, `\x41\n"`, 0, "A\n", 7)
		checkFold(t, "A)b", "a)b")
	}
}
