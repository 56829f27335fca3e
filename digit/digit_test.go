package digit_test

import (
	"math"
	"math/big"
	"regexp"
	"strconv"
	"strings"
	"testing"

	"rhyton/api"
	"rhyton/digit"
	"rhyton/pair"
)

const (
	least    = api.Cell(math.MinInt64)
	greatest = api.Cell(math.MaxInt64)
)

// The kinds and the ends of the bases are written as numbers: a wrong name in the package cannot hide behind the same name here.
const (
	noNumber  = 0
	isCell    = 1
	isPair    = 2
	leastBase = 2
	mostBase  = 36
)

const letters = "0123456789ABCDEFGHIJKLMNOPQRSTUVWXYZ"

// wrongBases are those that Text to Number refuse.
func wrongBases() []int {
	return []int{math.MinInt, -36, -10, -2, -1, 0, 1, 37, 38, 64, 256, 258, 266, 1<<32 + 10, math.MaxInt}
}

// cellEdges are the cells at which signs, carries and the number of digits change.
func cellEdges() []api.Cell {
	return []api.Cell{
		least, least + 1, -1 << 62, -1 << 32, -256, -255, -36, -10, -2, -1,
		0, 1, 2, 9, 10, 11, 15, 16, 35, 36, 37, 255, 256, 1 << 32, 1 << 62, greatest - 1, greatest,
	}
}

// pairEdges are all pairs of two edges: the least and the greatest pair among them, with signs and without.
func pairEdges() []api.Pair {
	var l []api.Pair
	for _, hi := range cellEdges() {
		for _, lo := range cellEdges() {
			l = append(l, api.Pair{Lo: lo, Hi: hi})
		}
	}
	return l
}

// unsignedPair and signedPair are the exact numbers of a pair.
func unsignedPair(p api.Pair) *big.Int {
	hi := new(big.Int).SetUint64(uint64(p.Hi))
	return hi.Add(hi.Lsh(hi, 64), new(big.Int).SetUint64(uint64(p.Lo)))
}

func signedPair(p api.Pair) *big.Int {
	exact := unsignedPair(p)
	if p.Hi < 0 {
		exact.Sub(exact, power(128))
	}
	return exact
}

func power(n uint) *big.Int { return new(big.Int).Lsh(big.NewInt(1), n) }

// wrapped is n modulo 2^128, as a pair.
func wrapped(n *big.Int) api.Pair {
	mask := new(big.Int).SetUint64(math.MaxUint64)
	lo := new(big.Int).And(n, mask)
	hi := new(big.Int).And(new(big.Int).Rsh(n, 64), mask)
	return api.Pair{Lo: api.Cell(lo.Uint64()), Hi: api.Cell(hi.Uint64())}
}

func exactText(n *big.Int, base int) string { return strings.ToUpper(n.Text(base)) }

// TestP31Char: P3.1, every digit, and the numbers around them that are none.
func TestP31Char(t *testing.T) {
	for n := -600; n <= 600; n++ {
		var want byte
		if n >= 0 && n < len(letters) {
			want = letters[n]
		}
		if got := digit.Char(n); got != want {
			t.Errorf("Char(%d) = %q, want %q", n, got, want)
		}
	}
	for _, n := range []int{math.MinInt, math.MinInt + 1, -1 << 32, 1 << 32, 1<<32 + 10, math.MaxInt - 1, math.MaxInt} {
		if got := digit.Char(n); got != 0 {
			t.Errorf("Char(%d) = %q", n, got)
		}
	}
}

func checkValue(t *testing.T, c byte, base, want int, ok bool) {
	t.Helper()
	if got, is := digit.Value(c, base); got != want || is != ok {
		t.Errorf("Value(%q, %d) = %d, %t, want %d, %t", c, base, got, is, want, ok)
	}
}

// TestP31Value: P3.1, plain cases written by hand, and the characters beside those of digits.
func TestP31Value(t *testing.T) {
	checkValue(t, '0', 10, 0, true)
	checkValue(t, '9', 10, 9, true)
	checkValue(t, '9', 9, 0, false)
	checkValue(t, 'A', 10, 0, false)
	checkValue(t, 'A', 11, 10, true)
	checkValue(t, 'a', 11, 10, true)
	checkValue(t, 'F', 16, 15, true)
	checkValue(t, 'f', 16, 15, true)
	checkValue(t, 'G', 16, 0, false)
	checkValue(t, 'g', 16, 0, false)
	checkValue(t, 'Z', 36, 35, true)
	checkValue(t, 'z', 36, 35, true)
	checkValue(t, 'z', 35, 0, false)
	for _, c := range []byte("/:@[`{-.#$% \x00\x7f\x80\xb0\xc1\xe1\xff") {
		checkValue(t, c, 36, 0, false)
	}
}

// TestP31ValueBases: P3.1, every character in every int base, those that are no bases of a number among them: there the digit need only be less.
func TestP31ValueBases(t *testing.T) {
	bases := wrongBases()
	for base := -40; base <= 80; base++ {
		bases = append(bases, base)
	}
	for _, base := range bases {
		for c := range 256 {
			n := strings.Index(letters, strings.ToUpper(string(rune(c))))
			if c >= 128 || n < 0 || n >= base {
				checkValue(t, byte(c), base, 0, false)
			} else {
				checkValue(t, byte(c), base, n, true)
			}
		}
	}
}

// TestP31Both: P3.1, each digit's character has that digit as its value.
func TestP31Both(t *testing.T) {
	for n := range mostBase {
		checkValue(t, digit.Char(n), n+1, n, true)
		checkValue(t, digit.Char(n), n, 0, false)
	}
}

func checkStep(t *testing.T, p api.Pair, base int, want api.Pair, c byte) {
	t.Helper()
	if got, letter := digit.Step(p, base); got != want || letter != c {
		t.Errorf("Step(%v, %d) = %v, %q, want %v, %q", p, base, got, letter, want, c)
	}
}

// TestP32Step: P3.2, plain cases written by hand.
func TestP32Step(t *testing.T) {
	checkStep(t, api.Pair{Lo: 123}, 10, api.Pair{Lo: 12}, '3')
	checkStep(t, api.Pair{}, 10, api.Pair{}, '0')
	checkStep(t, api.Pair{Lo: 9}, 10, api.Pair{}, '9')
	checkStep(t, api.Pair{Lo: 255}, 16, api.Pair{Lo: 15}, 'F')
	checkStep(t, api.Pair{Lo: 35}, 36, api.Pair{}, 'Z')
	checkStep(t, api.Pair{Lo: -1}, 2, api.Pair{Lo: greatest}, '1')
	checkStep(t, api.Pair{Hi: 1}, 2, api.Pair{Lo: least}, '0')
	checkStep(t, api.Pair{Hi: 1}, 10, api.Pair{Lo: 1844674407370955161}, '6')
	checkStep(t, api.Pair{Lo: -1, Hi: -1}, 16, api.Pair{Lo: -1, Hi: 1<<60 - 1}, 'F')
	checkStep(t, api.Pair{Lo: -1, Hi: -1}, 2, api.Pair{Lo: -1, Hi: greatest}, '1')
	checkStep(t, api.Pair{Hi: least}, 2, api.Pair{Hi: 1 << 62}, '0')
}

// TestP32StepEdges: P3.2, every edge in every base, held against exact integers.
func TestP32StepEdges(t *testing.T) {
	for _, p := range pairEdges() {
		for base := leastBase; base <= mostBase; base++ {
			quotient, rest := new(big.Int).QuoRem(unsignedPair(p), big.NewInt(int64(base)), new(big.Int))
			checkStep(t, p, base, wrapped(quotient), letters[rest.Int64()])
		}
	}
}

func checkTexts(t *testing.T, p api.Pair, base int, text, signed string) {
	t.Helper()
	if got := digit.Text(p, base); got != text {
		t.Errorf("Text(%v, %d) = %q, want %q", p, base, got, text)
	}
	if got := digit.Signed(p, base); got != signed {
		t.Errorf("Signed(%v, %d) = %q, want %q", p, base, got, signed)
	}
}

// TestP32Texts: P3.2, plain cases written by hand: one digit at least, no zeros ahead, the longest texts.
func TestP32Texts(t *testing.T) {
	checkTexts(t, api.Pair{}, 10, "0", "0")
	checkTexts(t, api.Pair{}, 2, "0", "0")
	checkTexts(t, api.Pair{Lo: 7}, 10, "7", "7")
	checkTexts(t, api.Pair{Lo: 100}, 10, "100", "100")
	checkTexts(t, api.Pair{Lo: 10}, 2, "1010", "1010")
	checkTexts(t, api.Pair{Lo: 1295}, 36, "ZZ", "ZZ")
	checkTexts(t, api.Pair{Lo: -1}, 16, "FFFFFFFFFFFFFFFF", "FFFFFFFFFFFFFFFF")
	checkTexts(t, api.Pair{Hi: 1}, 10, "18446744073709551616", "18446744073709551616")
	checkTexts(t, api.Pair{Hi: 1}, 2, "1"+strings.Repeat("0", 64), "1"+strings.Repeat("0", 64))
	checkTexts(t, pair.Of(-255), 16, "FFFFFFFFFFFFFFFFFFFFFFFFFFFFFF01", "-FF")
	checkTexts(t, pair.Of(-1), 10, "340282366920938463463374607431768211455", "-1")
	checkTexts(t, pair.Of(-1), 2, strings.Repeat("1", 128), "-1")
	checkTexts(t, pair.Of(-1), 36, "F5LXX1ZZ5PNORYNQGLHZMSP33", "-1")
	checkTexts(t, api.Pair{Hi: least}, 2, "1"+strings.Repeat("0", 127), "-1"+strings.Repeat("0", 127))
	checkTexts(t, api.Pair{Hi: least}, 10, "170141183460469231731687303715884105728", "-170141183460469231731687303715884105728")
	checkTexts(t, api.Pair{Lo: -1, Hi: greatest}, 10, "170141183460469231731687303715884105727", "170141183460469231731687303715884105727")
	checkTexts(t, api.Pair{Lo: 5, Hi: -1}, 10, "340282366920938463444927863358058659845", "-18446744073709551611")
}

// TestP32TextsEdges: P3.2, every edge in every base, held against exact integers.
func TestP32TextsEdges(t *testing.T) {
	for _, p := range pairEdges() {
		for base := leastBase; base <= mostBase; base++ {
			checkTexts(t, p, base, exactText(unsignedPair(p), base), exactText(signedPair(p), base))
		}
	}
}

// TestP32TextsSmall: P3.2, every small number in every base.
func TestP32TextsSmall(t *testing.T) {
	for n := int64(-1300); n <= 1300; n++ {
		p := pair.Of(api.Cell(n))
		for base := leastBase; base <= mostBase; base++ {
			checkTexts(t, p, base, exactText(unsignedPair(p), base), strings.ToUpper(strconv.FormatInt(n, base)))
		}
	}
}

func checkAccept(t *testing.T, p api.Pair, s string, base int, want api.Pair, left int) {
	t.Helper()
	if got, n := digit.Accept(p, s, base); got != want || n != left {
		t.Errorf("Accept(%v, %q, %d) = %v, %d, want %v, %d", p, s, base, got, n, want, left)
	}
}

// TestP33Accept: P3.3, plain cases written by hand.
func TestP33Accept(t *testing.T) {
	for _, x := range []struct {
		p    api.Pair
		s    string
		base int
		want api.Pair
		left int
	}{
		{api.Pair{}, "", 10, api.Pair{}, 0},
		{api.Pair{Lo: 5, Hi: 6}, "", 10, api.Pair{Lo: 5, Hi: 6}, 0},
		{api.Pair{}, "42", 10, api.Pair{Lo: 42}, 0},
		{api.Pair{}, "0042", 10, api.Pair{Lo: 42}, 0},
		{api.Pair{Lo: 1}, "23x4", 10, api.Pair{Lo: 123}, 2},
		{api.Pair{}, "x", 10, api.Pair{}, 1},
		{api.Pair{Lo: 9, Hi: 9}, "-1", 10, api.Pair{Lo: 9, Hi: 9}, 2},
		{api.Pair{}, "12.", 10, api.Pair{Lo: 12}, 1},
		{api.Pair{}, "1 2", 10, api.Pair{Lo: 1}, 2},
		{api.Pair{}, "$10", 10, api.Pair{}, 3},
		{api.Pair{}, "fF", 16, api.Pair{Lo: 255}, 0},
		{api.Pair{}, "fG1", 16, api.Pair{Lo: 15}, 2},
		{api.Pair{}, "012", 2, api.Pair{Lo: 1}, 1},
		{api.Pair{}, "zZ", 36, api.Pair{Lo: 1295}, 0},
		{api.Pair{}, "7\u00e9", 10, api.Pair{Lo: 7}, 2},
		{api.Pair{}, "7\u0663", 10, api.Pair{Lo: 7}, 2},
		{api.Pair{}, "7\xff\x008", 10, api.Pair{Lo: 7}, 3},
		{api.Pair{Lo: -1}, "0", 10, api.Pair{Lo: -10, Hi: 9}, 0},
		{api.Pair{Lo: -1}, "1", 2, api.Pair{Lo: -1, Hi: 1}, 0},
		{api.Pair{Hi: 1}, "1", 16, api.Pair{Lo: 1, Hi: 16}, 0},
		{api.Pair{Hi: least}, "1", 2, api.Pair{Lo: 1}, 0},
		{api.Pair{Lo: -1, Hi: -1}, "9", 10, api.Pair{Lo: -1, Hi: -1}, 0},
		{pair.Of(-7), "5", 10, pair.Of(-65), 0},
		{api.Pair{}, "100000000000000000000000000000000", 16, api.Pair{}, 0},
		{api.Pair{}, "340282366920938463463374607431768211457", 10, api.Pair{Lo: 1}, 0},
	} {
		checkAccept(t, x.p, x.s, x.base, x.want, x.left)
	}
}

// TestP33AcceptEdges: P3.3, every edge is taken on in every base, modulo 2^128, up to the first byte that is no digit.
func TestP33AcceptEdges(t *testing.T) {
	for base := leastBase; base <= mostBase; base++ {
		last := letters[base-1 : base]
		digits := "10" + strings.ToLower(last) + last
		exact, _ := new(big.Int).SetString(digits, base)
		shift := new(big.Int).Exp(big.NewInt(int64(base)), big.NewInt(int64(len(digits))), nil)
		for _, p := range pairEdges() {
			want := wrapped(new(big.Int).Add(new(big.Int).Mul(unsignedPair(p), shift), exact))
			checkAccept(t, p, digits, base, want, 0)
			checkAccept(t, p, digits+"~"+digits, base, want, len(digits)+1)
			checkAccept(t, p, "~"+digits, base, p, len(digits)+1)
			if base < mostBase {
				checkAccept(t, p, digits+letters[base:base+1], base, want, 1)
			}
		}
	}
}

// TestP33AcceptLong: P3.3, a text far longer than a pair has digits.
func TestP33AcceptLong(t *testing.T) {
	checkAccept(t, api.Pair{}, strings.Repeat("0", 100000)+"12_", 10, api.Pair{Lo: 12}, 1)
	checkAccept(t, api.Pair{}, strings.Repeat("1", 1000), 2, api.Pair{Lo: -1, Hi: -1}, 0)
	checkAccept(t, api.Pair{Lo: 3}, strings.Repeat("_", 1000), 2, api.Pair{Lo: 3}, 1000)
}

func checkNumber(t *testing.T, s string, base int, want api.Pair, kind int) {
	t.Helper()
	if got, k := digit.Number(s, base); got != want || k != kind {
		t.Errorf("Number(%q, %d) = %v, %d, want %v, %d", s, base, got, k, want, kind)
	}
}

// TestP34Numbers: P3.4, plain cases written by hand: each part present or not.
func TestP34Numbers(t *testing.T) {
	for _, x := range []struct {
		s    string
		base int
		want api.Pair
		kind int
	}{
		{"0", 10, api.Pair{}, isCell}, {"-0", 10, api.Pair{}, isCell}, {"0.", 10, api.Pair{}, isPair}, {"-0.", 10, api.Pair{}, isPair},
		{"12", 10, api.Pair{Lo: 12}, isCell}, {"12.", 10, api.Pair{Lo: 12}, isPair}, {"-12", 10, api.Pair{Lo: -12}, isCell}, {"-12.", 10, api.Pair{Lo: -12, Hi: -1}, isPair},
		{"007", 10, api.Pair{Lo: 7}, isCell}, {"101", 2, api.Pair{Lo: 5}, isCell}, {"fF", 16, api.Pair{Lo: 255}, isCell}, {"Zz", 36, api.Pair{Lo: 1295}, isCell},
		{"#10", 16, api.Pair{Lo: 10}, isCell}, {"$10", 10, api.Pair{Lo: 16}, isCell}, {"%10", 10, api.Pair{Lo: 2}, isCell},
		{"#-10", 2, api.Pair{Lo: -10}, isCell}, {"$-10", 2, api.Pair{Lo: -16}, isCell}, {"%-10", 36, api.Pair{Lo: -2}, isCell},
		{"#10.", 36, api.Pair{Lo: 10}, isPair}, {"$aB.", 2, api.Pair{Lo: 171}, isPair}, {"%-101.", 10, pair.Of(-5), isPair},
		{"$-ff.", 10, pair.Of(-255), isPair}, {"$-FF", 10, api.Pair{Lo: -255}, isCell},
	} {
		checkNumber(t, x.s, x.base, x.want, x.kind)
	}
}

// TestP34Wide: P3.4, values at and beyond the ends of a cell and of a pair: they wrap around, and one cell keeps the low one alone.
func TestP34Wide(t *testing.T) {
	for _, x := range []struct {
		s    string
		want api.Pair
		kind int
	}{
		{"9223372036854775807", api.Pair{Lo: greatest}, isCell}, {"9223372036854775808", api.Pair{Lo: least}, isCell},
		{"-9223372036854775808", api.Pair{Lo: least}, isCell}, {"-9223372036854775809", api.Pair{Lo: greatest}, isCell},
		{"9223372036854775808.", api.Pair{Lo: least}, isPair}, {"-9223372036854775808.", api.Pair{Lo: least, Hi: -1}, isPair},
		{"18446744073709551615", api.Pair{Lo: -1}, isCell}, {"18446744073709551616", api.Pair{}, isCell}, {"18446744073709551617", api.Pair{Lo: 1}, isCell},
		{"18446744073709551615.", api.Pair{Lo: -1}, isPair}, {"18446744073709551617.", api.Pair{Lo: 1, Hi: 1}, isPair},
		{"-18446744073709551616", api.Pair{}, isCell}, {"-18446744073709551617", api.Pair{Lo: -1}, isCell}, {"-18446744073709551616.", api.Pair{Hi: -1}, isPair},
		{"170141183460469231731687303715884105727.", api.Pair{Lo: -1, Hi: greatest}, isPair}, {"-170141183460469231731687303715884105728.", api.Pair{Hi: least}, isPair},
		{"170141183460469231731687303715884105728.", api.Pair{Hi: least}, isPair},
		{"340282366920938463463374607431768211455.", api.Pair{Lo: -1, Hi: -1}, isPair}, {"340282366920938463463374607431768211458.", api.Pair{Lo: 2}, isPair},
		{"-340282366920938463463374607431768211457.", api.Pair{Lo: -1, Hi: -1}, isPair}, {"-340282366920938463463374607431768211457", api.Pair{Lo: -1}, isCell},
		{"$" + strings.Repeat("f", 500), api.Pair{Lo: -1}, isCell}, {"%" + strings.Repeat("0", 500) + "11.", api.Pair{Lo: 3}, isPair},
	} {
		checkNumber(t, x.s, 10, x.want, x.kind)
	}
}

// TestP34None: P3.4, texts that are no numbers.
func TestP34None(t *testing.T) {
	for _, s := range []string{
		"", "-", ".", "-.", "#", "$", "%", "#-", "$.", "%-.", "1.2", "1..", ".1", "--1", "+1", "-+1", "-#1", "-$1", "##1", "#$1", "$#1", "#--1",
		" 1", "1 ", "1 .", "- 1", "# 1", "1-", "1-1", "1#", "1$", "1,", "1e5", "1.5e", "0x10", "&10", "'1'", "a", "1a", "a1", "#a", "#-1a.", "$g", "%2", "%12", "%-2.",
		"1\n", "\t1", "1\x00", "\x001", "1\xff", "\u0661", "\u22121", "1\u3002", "\uff11",
	} {
		checkNumber(t, s, 10, api.Pair{}, noNumber)
	}
	checkNumber(t, "2", 2, api.Pair{}, noNumber)
	checkNumber(t, "f", 15, api.Pair{}, noNumber)
	checkNumber(t, "z", 35, api.Pair{}, noNumber)
	checkNumber(t, "#f", 16, api.Pair{}, noNumber)
	checkNumber(t, "%5", 36, api.Pair{}, noNumber)
}

// grammar is the chapter's form of a number in a base, as a pattern.
func grammar(base int) *regexp.Regexp {
	digits := func(base int) string { return "([" + letters[:base] + strings.ToLower(letters[:base]) + "]+)" }
	return regexp.MustCompile(`^(?:#(-?)` + digits(10) + `|\$(-?)` + digits(16) + `|%(-?)` + digits(2) + `|(-?)` + digits(base) + `)(\.?)$`)
}

// grammatical is the number of a text by the pattern; its value is less than a cell holds.
func grammatical(pattern *regexp.Regexp, s string, base int) (api.Pair, int) {
	parts := pattern.FindStringSubmatch(s)
	if parts == nil {
		return api.Pair{}, noNumber
	}
	var value int64
	for i, base := range []int{10, 16, 2, base} {
		if sign, digits := parts[2*i+1], parts[2*i+2]; digits != "" {
			value, _ = strconv.ParseInt(sign+digits, base, 64)
		}
	}
	if parts[9] == "." {
		return pair.Of(api.Cell(value)), isPair
	}
	return api.Pair{Lo: api.Cell(value)}, isCell
}

// TestP34Grammar: P3.4, every short text of the characters that matter, in some bases.
func TestP34Grammar(t *testing.T) {
	const some = "#$%-.019aF"
	texts := []string{""}
	for from := 0; len(texts) < 100000; {
		to := len(texts)
		for _, s := range texts[from:to] {
			for _, c := range some {
				texts = append(texts, s+string(c))
			}
		}
		from = to
	}
	for _, base := range []int{2, 3, 10, 11, 16, 36} {
		pattern := grammar(base)
		for _, s := range texts {
			want, kind := grammatical(pattern, s, base)
			checkNumber(t, s, base, want, kind)
		}
	}
}

// TestWrongBase: what each call answers of a base that is none.
func TestWrongBase(t *testing.T) {
	for _, base := range wrongBases() {
		for _, p := range []api.Pair{{}, {Lo: 1}, {Lo: 123, Hi: 4}, pair.Of(-1), {Hi: least}, {Lo: -1, Hi: greatest}} {
			checkTexts(t, p, base, "", "")
			checkStep(t, p, base, p, 0)
			for _, s := range []string{"", "0", "1", "101", "x1", "\xff", "-1."} {
				checkAccept(t, p, s, base, p, len(s))
			}
		}
		for _, s := range []string{"", "0", "1", "-1", "1.", "#10", "$10", "%10", "#-1.", "$-ff.", "x", "\xff"} {
			checkNumber(t, s, base, api.Pair{}, noNumber)
		}
	}
}

// TestP35Back: P3.5, accepting the text of a number in its base yields the number again, in capitals or not.
func TestP35Back(t *testing.T) {
	for _, p := range pairEdges() {
		for base := leastBase; base <= mostBase; base++ {
			text := digit.Text(p, base)
			checkAccept(t, api.Pair{}, text, base, p, 0)
			checkAccept(t, api.Pair{}, strings.ToLower(text), base, p, 0)
			checkNumber(t, text+".", base, p, isPair)
			checkNumber(t, digit.Signed(p, base)+".", base, p, isPair)
			checkNumber(t, digit.Signed(p, base), base, api.Pair{Lo: p.Lo}, isCell)
		}
	}
}

// TestP35Steps: P3.5 with P3.2, the characters of the steps are the text from its end on.
func TestP35Steps(t *testing.T) {
	for _, p := range pairEdges() {
		for base := leastBase; base <= mostBase; base++ {
			text, left := digit.Text(p, base), p
			for i := len(text) - 1; i >= 0; i-- {
				var c byte
				if left, c = digit.Step(left, base); c != text[i] {
					t.Fatalf("the digit %d of %v in base %d is %q, want %q", i, p, base, c, text[i])
				}
			}
			if left != (api.Pair{}) {
				t.Fatalf("the steps of %v in base %d leave %v", p, base, left)
			}
		}
	}
}

// TestPure: what a call answers does not hang on earlier calls.
func TestPure(t *testing.T) {
	for range 3 {
		checkTexts(t, pair.Of(-255), 16, "FFFFFFFFFFFFFFFFFFFFFFFFFFFFFF01", "-FF")
		checkTexts(t, api.Pair{}, 1, "", "")
		checkStep(t, api.Pair{Lo: 255}, 16, api.Pair{Lo: 15}, 'F')
		checkAccept(t, api.Pair{Lo: 1}, "23x4", 10, api.Pair{Lo: 123}, 2)
		checkNumber(t, "$-ff.", 10, pair.Of(-255), isPair)
		checkNumber(t, "10", 10, api.Pair{Lo: 10}, isCell)
		checkNumber(t, "", 10, api.Pair{}, noNumber)
	}
}
