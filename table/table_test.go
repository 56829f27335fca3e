package table_test

import (
	"math"
	"math/rand"
	"slices"
	"strings"
	"testing"

	"rhyton/api"
	"rhyton/table"
)

// flags is what is set for a word.
type flags struct{ now, only bool }

var (
	plain = flags{}
	now   = flags{now: true}
	only  = flags{only: true}
	both  = flags{true, true}
)

// row is a built-in word: its name, its number as api calls it, and what is set for it.
type row struct {
	name  string
	n     int
	flags flags
}

// The words of each kind in the chapter's order, with the numbers as api calls them: a word out of its place does not have the number of its row.

var prims = []row{
	{"negate", api.PmNegate, plain}, {"abs", api.PmAbs, plain}, {"invert", api.PmInvert, plain}, {"1+", api.PmInc, plain},
	{"1-", api.PmDec, plain}, {"2*", api.PmTwice, plain}, {"2/", api.PmHalf, plain}, {"0=", api.PmIsZero, plain},
	{"0<", api.PmIsNeg, plain}, {"0<>", api.PmNonZero, plain}, {"+", api.PmAdd, plain}, {"-", api.PmSub, plain},
	{"*", api.PmMul, plain}, {"/", api.PmDiv, plain}, {"mod", api.PmMod, plain}, {"and", api.PmAnd, plain},
	{"or", api.PmOr, plain}, {"xor", api.PmXor, plain}, {"lshift", api.PmLeft, plain}, {"rshift", api.PmRight, plain},
	{"=", api.PmEqual, plain}, {"<>", api.PmOther, plain}, {"<", api.PmLess, plain}, {">", api.PmMore, plain},
	{"u<", api.PmULess, plain}, {"min", api.PmMin, plain}, {"max", api.PmMax, plain}, {"dup", api.PmDup, plain},
	{"drop", api.PmDrop, plain}, {"swap", api.PmSwap, plain}, {"over", api.PmOver, plain}, {"rot", api.PmRot, plain},
	{"nip", api.PmNip, plain}, {"tuck", api.PmTuck, plain}, {"?dup", api.PmQDup, plain}, {"2dup", api.PmDup2, plain},
	{"2drop", api.PmDrop2, plain}, {"2swap", api.PmSwap2, plain}, {"2over", api.PmOver2, plain}, {"pick", api.PmPick, plain},
	{"roll", api.PmRoll, plain}, {"depth", api.PmDepth, plain}, {"s>d", api.PmWide, plain}, {"d+", api.PmAdd2, plain},
	{"d-", api.PmSub2, plain}, {"dnegate", api.PmNeg2, plain}, {"dabs", api.PmAbs2, plain}, {"d<", api.PmLess2, plain},
	{"du<", api.PmULess2, plain}, {"d=", api.PmEqual2, plain}, {"d2*", api.PmTwice2, plain}, {"d2/", api.PmHalf2, plain},
	{"m*", api.PmMulW, plain}, {"um*", api.PmUMulW, plain}, {"um/mod", api.PmUDivW, plain}, {"fm/mod", api.PmFloorW, plain},
	{"sm/rem", api.PmTruncW, plain}, {"*/", api.PmScale, plain}, {"*/mod", api.PmScaleMod, plain}, {"/mod", api.PmDivMod, plain},
	{"fnegate", api.PmRNeg, plain}, {"fabs", api.PmRAbs, plain}, {"f+", api.PmRAdd, plain}, {"f-", api.PmRSub, plain},
	{"f*", api.PmRMul, plain}, {"f/", api.PmRDiv, plain}, {"fmin", api.PmRMin, plain}, {"fmax", api.PmRMax, plain},
	{"f<", api.PmRLess, plain}, {"f=", api.PmREqual, plain}, {"s>f", api.PmToReal, plain}, {"f>s", api.PmFromReal, plain},
	{"@", api.PmGet, plain}, {"!", api.PmPut, plain}, {"c@", api.PmGetC, plain}, {"c!", api.PmPutC, plain},
	{"+!", api.PmAddTo, plain}, {"2@", api.PmGet2, plain}, {"2!", api.PmPut2, plain}, {"fill", api.PmFill, plain},
	{"move", api.PmMove, plain}, {"here", api.PmHere, plain}, {"allot", api.PmAllot, plain}, {",", api.PmComma, plain},
	{"c,", api.PmCComma, plain}, {"align", api.PmAlign, plain}, {"aligned", api.PmAligned, plain}, {"cells", api.PmBytes, plain},
	{"count", api.PmCount, plain}, {"emit", api.PmEmit, plain}, {".", api.PmDot, plain}, {"u.", api.PmUDot, plain},
	{"d.", api.PmDDot, plain}, {"f.", api.PmRDot, plain}, {"cr", api.PmCr, plain}, {"space", api.PmSpace, plain},
	{"spaces", api.PmSpaces, plain}, {"type", api.PmType, plain}, {".s", api.PmShow, plain}, {"decimal", api.PmDecimal, plain},
	{"hex", api.PmHex, plain}, {"<#", api.PmBegin, plain}, {"#", api.PmDigit, plain}, {"#s", api.PmDigits, plain},
	{"hold", api.PmHold, plain}, {"sign", api.PmSign, plain}, {"#>", api.PmEnd, plain},
}

var ctls = []row{
	{">r", api.CtToR, only}, {"r>", api.CtFromR, only}, {"r@", api.CtCopyR, only}, {"i", api.CtI, only},
	{"j", api.CtJ, only}, {"unloop", api.CtUnloop, only}, {"execute", api.CtExecute, plain}, {"catch", api.CtCatch, plain},
	{"throw", api.CtThrow, plain},
}

var flows = []row{
	{"if", api.FlIf, both}, {"else", api.FlElse, both}, {"then", api.FlThen, both}, {"begin", api.FlBegin, both},
	{"while", api.FlWhile, both}, {"repeat", api.FlRepeat, both}, {"until", api.FlUntil, both}, {"again", api.FlAgain, both},
	{"do", api.FlDo, both}, {"?do", api.FlQDo, both}, {"loop", api.FlLoop, both}, {"+loop", api.FlPlus, both},
	{"leave", api.FlLeave, both}, {"case", api.FlCase, both}, {"of", api.FlOf, both}, {"endof", api.FlEndOf, both},
	{"endcase", api.FlEndCase, both},
}

var hosts = []row{
	{":", api.HoColon, plain}, {":noname", api.HoNoname, plain}, {";", api.HoSemi, both}, {"exit", api.HoExit, both},
	{"recurse", api.HoRecurse, both}, {"[", api.HoOpen, now}, {"]", api.HoClose, plain}, {"literal", api.HoLiteral, both},
	{"compile,", api.HoCompile, plain}, {"postpone", api.HoPostpone, both}, {"'", api.HoTick, plain}, {"[']", api.HoTickNow, both},
	{"immediate", api.HoNow, plain}, {"create", api.HoCreate, plain}, {"does>", api.HoDoes, both}, {"constant", api.HoConst, plain},
	{"variable", api.HoVar, plain}, {"value", api.HoValue, plain}, {"to", api.HoTo, now}, {"defer", api.HoDefer, plain},
	{"is", api.HoIs, now}, {"char", api.HoChar, plain}, {"[char]", api.HoCharNow, both}, {"(", api.HoParen, now},
	{`\`, api.HoLine, now}, {`s"`, api.HoText, now}, {`s\"`, api.HoTurned, now}, {`."`, api.HoSay, now},
	{"evaluate", api.HoEval, plain}, {"parse", api.HoParse, plain}, {"parse-name", api.HoName, plain}, {"save-input", api.HoSave, plain},
	{"restore-input", api.HoRestore, plain}, {"{:", api.HoLocals, both}, {"wordlist", api.HoList, plain}, {"set-current", api.HoCurrent, plain},
	{"set-order", api.HoOrder, plain}, {"get-order", api.HoGetOrder, plain}, {"marker", api.HoMarker, plain}, {"set-recognizers", api.HoRecs, plain},
	{"get-recognizers", api.HoGetRecs, plain}, {"key", api.HoKey, plain}, {"bye", api.HoBye, plain}, {"(does>)", api.HoSetDoes, only},
	{"(to)", api.HoSetTo, only}, {"(is)", api.HoSetIs, only}, {"(marker)", api.HoBack, only},
}

// kinds are the rows of each kind of built-in words; the kinds' numbers count from 1.
func kinds() [][]row { return [][]row{prims, ctls, flows, hosts} }

// model is all built-in words.
func model() []api.Built {
	var all []api.Built
	for i, rows := range kinds() {
		for _, r := range rows {
			all = append(all, api.Built{Name: r.name, Kind: i + 1, N: r.n, Now: r.flags.now, Only: r.flags.only})
		}
	}
	return all
}

// byName is all built-in words by their names.
func byName() map[string]api.Built {
	all := map[string]api.Built{}
	for _, w := range model() {
		all[w.Name] = w
	}
	return all
}

// small is a name with small letters, by the words of chapter 7.
func small(s string) string {
	b := []byte(s)
	for i, c := range b {
		if 'A' <= c && c <= 'Z' {
			b[i] = c - 'A' + 'a'
		}
	}
	return string(b)
}

func checkFound(t *testing.T, name string, want api.Built) {
	t.Helper()
	if w, ok := table.Find(name); !ok || w != want {
		t.Errorf("Find(%q) = %v, %t, want %v, true", name, w, ok, want)
	}
}

func checkNotFound(t *testing.T, name string) {
	t.Helper()
	if w, ok := table.Find(name); ok || w != (api.Built{}) {
		t.Errorf("Find(%.100q) = %v, %t, want nothing, false", name, w, ok)
	}
}

// checkFind asks for a name, which is found if it is in the model, and only then.
func checkFind(t *testing.T, all map[string]api.Built, name string) {
	t.Helper()
	if w, ok := all[small(name)]; ok {
		checkFound(t, name, w)
	} else {
		checkNotFound(t, name)
	}
}

func checkName(t *testing.T, kind, n int, want string) {
	t.Helper()
	if name := table.Name(kind, n); name != want {
		t.Errorf("Name(%d, %d) = %q, want %q", kind, n, name, want)
	}
}

// TestExample: the chapter's example.
func TestExample(t *testing.T) {
	checkFound(t, "DUP", api.Built{Name: "dup", Kind: api.WkPrim, N: 28})
}

// TestRows: the tests' own rows are whole: the numbers of each kind count from 1 on, up to api's last one, and so do the kinds.
func TestRows(t *testing.T) {
	for i, kind := range []int{api.WkPrim, api.WkCtl, api.WkFlow, api.WkHost} {
		if kind != i+1 {
			t.Errorf("kind %d has the number %d", i+1, kind)
		}
	}
	many := []int{api.PmLast - 1, api.CtThrow, api.FlEndCase, api.HoBack}
	for i, rows := range kinds() {
		if len(rows) != many[i] {
			t.Errorf("kind %d has %d rows, want %d", i+1, len(rows), many[i])
		}
		for j, r := range rows {
			if r.n != j+1 {
				t.Errorf("%s has the number %d, want %d", r.name, r.n, j+1)
			}
		}
	}
}

// TestP121All: P12.1, each word, with its kind, its number and what is set for it, in its place.
func TestP121All(t *testing.T) {
	got, want := table.All(), model()
	if len(got) != len(want) || len(want) != 180 {
		t.Fatalf("%d words, want %d", len(got), len(want))
	}
	for i, w := range got {
		if w != want[i] {
			t.Errorf("at %d: %v, want %v", i, w, want[i])
		}
	}
}

// TestP121Names: P12.1, the names as the chapter lists them.
func TestP121Names(t *testing.T) {
	texts := []string{
		"negate abs invert 1+ 1- 2* 2/ 0= 0< 0<> + - * / mod and or xor lshift rshift = <> < > u< min max dup drop swap over rot nip tuck ?dup 2dup 2drop 2swap 2over pick roll depth s>d d+ d- dnegate dabs d< du< d= d2* d2/ m* um* um/mod fm/mod sm/rem */ */mod /mod fnegate fabs f+ f- f* f/ fmin fmax f< f= s>f f>s @ ! c@ c! +! 2@ 2! fill move here allot , c, align aligned cells count emit . u. d. f. cr space spaces type .s decimal hex <# # #s hold sign #>",
		">r r> r@ i j unloop execute catch throw",
		"if else then begin while repeat until again do ?do loop +loop leave case of endof endcase",
		`: :noname ; exit recurse [ ] literal compile, postpone ' ['] immediate create does> constant variable value to defer is char [char] ( \ s" s\" ." evaluate parse parse-name save-input restore-input {: wordlist set-current set-order get-order marker set-recognizers get-recognizers key bye (does>) (to) (is) (marker)`,
	}
	names := make([][]string, len(texts))
	for _, w := range table.All() {
		if w.Kind < 1 || w.Kind > len(texts) {
			t.Fatalf("%v has a kind that is none of built-in words", w)
		}
		names[w.Kind-1] = append(names[w.Kind-1], w.Name)
	}
	for i, want := range texts {
		if got := strings.Join(names[i], " "); got != want {
			t.Errorf("kind %d:\n%s\nwant\n%s", i+1, got, want)
		}
	}
}

// TestP121Flags: P12.1, the words that Now and Only are set for, as the chapter lists them, in the order of All.
func TestP121Flags(t *testing.T) {
	const flowNames = "if else then begin while repeat until again do ?do loop +loop leave case of endof endcase"
	var immediate, compiled []string
	for _, w := range table.All() {
		if w.Now {
			immediate = append(immediate, w.Name)
		}
		if w.Only {
			compiled = append(compiled, w.Name)
		}
	}
	want := flowNames + ` ; exit recurse [ literal postpone ['] does> to is [char] ( \ s" s\" ." {:`
	if got := strings.Join(immediate, " "); got != want {
		t.Errorf("Now is set for\n%s\nwant\n%s", got, want)
	}
	want = ">r r> r@ i j unloop " + flowNames + " ; exit recurse literal postpone ['] does> [char] {: (does>) (to) (is) (marker)"
	if got := strings.Join(compiled, " "); got != want {
		t.Errorf("Only is set for\n%s\nwant\n%s", got, want)
	}
}

// TestP121New: P12.1, what All returns is new memory: nothing that is done to it comes back.
func TestP121New(t *testing.T) {
	first, second := table.All(), table.All()
	first = first[:cap(first)]
	for i := range first {
		first[i] = api.Built{Name: "dup", Kind: -1, N: -1, Now: true, Only: true}
	}
	want := model()
	if !slices.Equal(second, want) || !slices.Equal(table.All(), want) {
		t.Error("the words have changed")
	}
	checkFound(t, "negate", want[0])
	checkName(t, 1, 1, "negate")
	checkName(t, 4, 47, "(marker)")
}

// TestP122Find: P12.2, each word by its name, with each of its letters of either case.
func TestP122Find(t *testing.T) {
	for _, w := range model() {
		checkFound(t, w.Name, w)
		checkFound(t, strings.ToUpper(w.Name), w)
		for i := range len(w.Name) {
			checkFound(t, w.Name[:i]+strings.ToUpper(w.Name[i:i+1])+w.Name[i+1:], w)
			checkFound(t, strings.ToUpper(w.Name[:i])+w.Name[i:], w)
			checkFound(t, w.Name[:i]+strings.ToUpper(w.Name[i:]), w)
		}
	}
}

// TestP122NotFound: P12.2, names of no built-in word, by hand.
func TestP122NotFound(t *testing.T) {
	for _, name := range []string{
		"", " ", "  ", "\n", "\t", "\x00", "nothing", "0", "1", "-1", "a", "zz",
		"base", "bl", "true", "false", // layer 18 adds these
		"-rot", "2>r", "2r>", "2r@", "0>", "u>", "within", "cell+", "char+", "chars", "words", "see", "include", "abort", "quit", "state",
		">in", "source", "refill", "accept", "find", "forth", "only", "also", "previous", "definitions", ":}", "--", "]]", "[[", "s,", "f.s",
		"dup ", " dup", "dup\n", "\tdup", "dup\x00", "\x00dup", "dup drop", "negate abs", "exit;", "; exit", "> r", `s" `, ` \`, `' [']`,
		"du", "dupp", "ddup", "up", "d", "pud",
		"[:", "{'}", "{char}", "}", "{", "`", "|", `s|"`, "C`", "\x1a", "\x1b", // 32 away from a sign, which is no letter
		"\x04UP", "\xe4up", "d\xd5p", "\u212aey", "\u017fwap", "\u017fpaces", "\u0130f", "\u0131f", "\uff44\uff55\uff50", "dup\u00a0", "dup\u200b", "d\u00fcp",
		"\x7f", "\x80", "\xff", "\xc0", "\xbb", // the last one is 128 away from `;`
		strings.Repeat("dup", 40000), strings.Repeat(" ", 100000), strings.Repeat("x", 31), strings.Repeat("x", 32),
	} {
		checkNotFound(t, name)
	}
}

// TestP122Short: P12.2, every name of one byte and of two.
func TestP122Short(t *testing.T) {
	all := byName()
	for a := range 256 {
		checkFind(t, all, string([]byte{byte(a)}))
		for b := range 256 {
			checkFind(t, all, string([]byte{byte(a), byte(b)}))
		}
	}
}

// TestP122Beside: P12.2, names that differ from a word's in one byte: another one, one more, one less.
func TestP122Beside(t *testing.T) {
	all := byName()
	r := rand.New(rand.NewSource(12))
	for _, w := range model() {
		for i := range len(w.Name) + 1 {
			for _, c := range []byte{0, ' ', '\n', '(', '>', 'D', 'd', w.Name[0] ^ 32, w.Name[0] ^ 128, byte(r.Intn(256))} {
				checkFind(t, all, w.Name[:i]+string([]byte{c})+w.Name[i:])
				if i < len(w.Name) {
					checkFind(t, all, w.Name[:i]+string([]byte{c})+w.Name[i+1:])
				}
			}
			checkFind(t, all, w.Name[:i])
			checkFind(t, all, w.Name[i:])
			if i < len(w.Name) {
				checkFind(t, all, w.Name[:i]+w.Name[i+1:])
				checkFind(t, all, w.Name[:i]+string([]byte{w.Name[i] ^ 32})+w.Name[i+1:])
				checkFind(t, all, w.Name[:i]+string([]byte{w.Name[i] ^ 128})+w.Name[i+1:])
			}
		}
	}
}

// TestP122Pairs: P12.2, two names after each other, with a blank between them or without, are not the name of a word, unless a row says so.
func TestP122Pairs(t *testing.T) {
	all := byName()
	words := model()
	for i, v := range words {
		for _, w := range []api.Built{words[(i+1)%len(words)], words[(i+7)%len(words)], v} {
			for _, between := range []string{"", " ", "\n", "\n\t\t", "\x00"} {
				checkFind(t, all, v.Name+between+w.Name)
			}
		}
	}
}

// TestP122Name: P12.2, the name of each word, by its kind and number.
func TestP122Name(t *testing.T) {
	for _, w := range model() {
		checkName(t, w.Kind, w.N, w.Name)
	}
}

// wrongNumbers are numbers of no word and of no kind.
func wrongNumbers() []int {
	return []int{
		math.MinInt, math.MinInt + 1, -1<<32 + 1, -1 << 32, -256, -255, -180, -107, -2, -1, 0, 108, 127, 128, 180, 181, 255, 256, 257, 258,
		1 << 16, 1<<16 + 1, 1<<31 - 1, 1 << 31, 1 << 32, 1<<32 + 1, 1<<32 + 4, math.MaxInt - 1, math.MaxInt,
	}
}

// TestP122NoName: P12.2, kinds that are none of built-in words, and numbers of no word of a kind.
func TestP122NoName(t *testing.T) {
	for i, rows := range kinds() {
		for _, n := range wrongNumbers() {
			checkName(t, i+1, n, "")
		}
		for n := len(rows) + 1; n < 200; n++ {
			checkName(t, i+1, n, "")
			checkName(t, i+1, -n, "")
		}
	}
	wrongKinds := append(wrongNumbers(), api.WkColon, api.WkCell, api.WkDoes, api.WkDefer, api.WkValue, 10, 11, 12)
	for _, kind := range wrongKinds {
		for n := -3; n <= 190; n++ {
			checkName(t, kind, n, "")
		}
		for _, n := range wrongNumbers() {
			checkName(t, kind, n, "")
		}
	}
}

// TestP122Agree: P12.2, Find and Name answer of each word of All what All tells of it.
func TestP122Agree(t *testing.T) {
	for _, w := range table.All() {
		checkFound(t, w.Name, w)
		checkName(t, w.Kind, w.N, w.Name)
	}
}

// TestP123Names: P12.3, no two words have the same name, and each name is one that a line can have and a dictionary can hold.
func TestP123Names(t *testing.T) {
	seen := map[string]api.Built{}
	for _, w := range table.All() {
		if v, ok := seen[small(w.Name)]; ok {
			t.Errorf("%v and %v have the same name", v, w)
		}
		seen[small(w.Name)] = w
		if w.Name == "" || len(w.Name) > 31 || w.Name != small(w.Name) || strings.ContainsFunc(w.Name, func(c rune) bool { return c <= ' ' || c > '~' }) {
			t.Errorf("%v has the name %q", w, w.Name)
		}
	}
	if len(seen) != 180 {
		t.Errorf("there are %d names", len(seen))
	}
}

// TestSame: the calls are pure: the same arguments answer the same, whatever was asked in between.
func TestSame(t *testing.T) {
	want := model()
	for range 3 {
		checkNotFound(t, "nothing")
		checkName(t, 0, 0, "")
		for _, i := range []int{0, 27, 106, 107, 115, 116, 132, 133, 179} {
			checkFound(t, want[i].Name, want[i])
			checkName(t, want[i].Kind, want[i].N, want[i].Name)
		}
		if !slices.Equal(table.All(), want) {
			t.Error("the words have changed")
		}
	}
}
