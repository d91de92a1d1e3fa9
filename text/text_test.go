package text_test

import (
	"fmt"
	"math"
	"math/rand"
	"regexp"
	"strconv"
	"strings"
	"testing"
	"unicode/utf8"

	"firebell/api"
	"firebell/text"
)

// letterClass is what the chapter calls a letter, as a pattern.
const letterClass = `a-zA-Z\x{C0}-\x{D6}\x{D8}-\x{F6}\x{F8}-\x{24F}\x{370}-\x{3FF}\x{400}-\x{4FF}`

var letterPattern = regexp.MustCompile(`^[` + letterClass + `]$`)

// namePattern is what the chapter calls a name, as a pattern.
var namePattern = regexp.MustCompile(`^[` + letterClass + `]([` + letterClass + `0-9_-]{0,22}[` + letterClass + `0-9])?$`)

// quotedPattern is a quoted text, but that the numbers in it may be no rune's, and that bad bytes are the rune FFFD to it.
var quotedPattern = regexp.MustCompile(`^"((?:[^"\\\x00-\x1f\x7f]|\\["\\nt]|\\u\{[0-9a-f]{1,6}\})*)"$`)

var escapePattern = regexp.MustCompile(`\\(?:["\\nt]|u\{[0-9a-f]+\})`)

// noRunes are out of all runes, and what has low bits that would be a letter.
func noRunes() []rune {
	l := []rune{-1, -2, -'a', -'z', -0xC0, math.MinInt32, math.MinInt32 + 1, math.MinInt32 + 'a', math.MaxInt32, math.MaxInt32 - 1, utf8.MaxRune + 1, utf8.MaxRune + 2, 0x110000 + 'a'}
	for _, r := range "azAZÀɏͰӿ09_- " {
		for _, high := range []rune{1 << 21, 1 << 24, 1 << 30, math.MinInt32} {
			l = append(l, r+high)
		}
		l = append(l, -r)
	}
	return l
}

// bads are bytes that are no runes, one for each way to be so, with how many bad bytes each has.
var bads = map[string]int{
	"\x80": 1, "\xbf": 1, "\xff": 1, "\xfe": 1, "\xf8": 1, "\xf5": 1, "\x80\x80": 2, "\xff\xff\xff": 3,
	// runes cut short
	"\xc3": 1, "\xdf": 1, "\xe2": 1, "\xe2\x82": 2, "\xf0": 1, "\xf0\x9f": 2, "\xf0\x9f\x98": 3, "\xef\xbf": 2, "\xc3\xc3": 2, "\xe2\xe2\x82": 3,
	// runes not in their shortest form
	"\xc0\x80": 2, "\xc1\xa1": 2, "\xc0\xa2": 2, "\xe0\x81\xa1": 3, "\xe0\x9f\xbf": 3, "\xf0\x80\x81\xa1": 4, "\xf0\x8f\xbf\xbf": 4, "\xf0\x82\x82\xac": 4,
	// halves of pairs, and pairs
	"\xed\xa0\x80": 3, "\xed\xad\xbf": 3, "\xed\xb0\x80": 3, "\xed\xbf\xbf": 3, "\xed\xa0\xbd\xed\xb8\x80": 6,
	// beyond the last rune
	"\xf4\x90\x80\x80": 4, "\xf7\xbf\xbf\xbf": 4, "\xf8\x88\x80\x80\x80": 5, "\xfc\x84\x80\x80\x80\x80": 6,
}

// goods are runes beside those, and ordinary ones.
var goods = []string{"a", "Z", "0", " ", "\x00", "\x7f", "\u0080", "é", "ÿ", "߿", "ࠀ", "€", "\ud7ff", "\ue000", "\ufeff", "\ufffd", "\ufffe", "\uffff", "\U00010000", "😀", "\U0010fffe", "\U0010ffff"}

// texts are pieces of all kinds, one behind the other.
func texts() []string {
	pieces := append([]string{}, goods...)
	for bad := range bads {
		pieces = append(pieces, bad)
	}
	l := []string{""}
	for _, a := range pieces {
		for _, b := range pieces {
			l = append(l, a+b, "x"+a+b, a+"x"+b, a+b+"x")
		}
	}
	r := rand.New(rand.NewSource(61))
	for range 20000 {
		b := make([]byte, r.Intn(12))
		r.Read(b)
		s := ""
		for range r.Intn(6) {
			s += pieces[r.Intn(len(pieces))]
		}
		l = append(l, string(b), s, s+string(b))
	}
	return l
}

// edges are the bytes at which what may follow one turns.
var edges = []byte{0x00, 0x41, 0x7f, 0x80, 0x8f, 0x90, 0x9f, 0xa0, 0xbf, 0xc0, 0xc1, 0xc2, 0xdf, 0xe0, 0xe1, 0xec, 0xed, 0xee, 0xef, 0xf0, 0xf1, 0xf3, 0xf4, 0xf5, 0xff}

// shorts are all texts of two bytes, and all of three and four of edges.
func shorts() []string {
	var l []string
	for a := range 256 {
		l = append(l, string([]byte{byte(a)}))
		for b := range 256 {
			l = append(l, string([]byte{byte(a), byte(b)}))
		}
	}
	for _, a := range edges {
		for _, b := range edges {
			for _, c := range edges {
				l = append(l, string([]byte{a, b, c}))
				for _, d := range edges {
					l = append(l, string([]byte{a, b, c, d}))
				}
			}
		}
	}
	return l
}

// pieces of a text: its runes, and its bad bytes.
func pieces(s string) []string {
	var l []string
	for s != "" {
		_, n := utf8.DecodeRuneInString(s)
		l = append(l, s[:n])
		s = s[n:]
	}
	return l
}

// good: a conversion to runes makes three bytes of a bad one.
func good(s string) bool {
	return string([]rune(s)) == s
}

// quoted is what the chapter says of Quote, by fmt.
func quoted(s string) (string, api.Code) {
	if !good(s) {
		return "", api.Word
	}
	if len([]rune(s)) > 120 {
		return "", api.Long
	}
	q := ""
	for _, r := range s {
		switch {
		case r == '\n':
			q += "\\n"
		case r == '\t':
			q += "\\t"
		case r < 32 || r == 127:
			q += fmt.Sprintf("\\u{%x}", r)
		case strings.ContainsRune("\"\\", r):
			q += "\\" + string(r)
		default:
			q += string(r)
		}
	}
	return "\"" + q + "\"", api.Fine
}

// unquoted is what the chapter says of Unquote, by patterns.
func unquoted(s string) (string, api.Code) {
	parts := quotedPattern.FindStringSubmatch(s)
	if parts == nil || !good(s) {
		return "", api.Word
	}
	right := true
	u := escapePattern.ReplaceAllStringFunc(parts[1], func(e string) string {
		switch e[1] {
		case 'n':
			return "\n"
		case 't':
			return "\t"
		case 'u':
			n, _ := strconv.ParseInt(e[3:len(e)-1], 16, 32)
			if n > 0x10FFFF || n >= 0xD800 && n <= 0xDFFF {
				right = false
			}
			return string(rune(n))
		}
		return e[1:]
	})
	if !right {
		return "", api.Word
	}
	if len([]rune(u)) > 120 {
		return "", api.Long
	}
	return u, api.Fine
}

// shown is a text in a test's words, cut off where it is very long.
func shown(s string) string {
	q := strconv.QuoteToASCII(s)
	if len(q) > 400 {
		return fmt.Sprintf("%s.. of %d bytes", q[:400], len(s))
	}
	return q
}

func wantQuote(t *testing.T, s, want string, c api.Code) {
	t.Helper()
	if q, d := text.Quote(s); q != want || d != c {
		t.Errorf("Quote(%s): %s, %d, not %s, %d", shown(s), shown(q), d, shown(want), c)
	}
}

func wantUnquote(t *testing.T, s, want string, c api.Code) {
	t.Helper()
	if u, d := text.Unquote(s); u != want || d != c {
		t.Errorf("Unquote(%s): %s, %d, not %s, %d", shown(s), shown(u), d, shown(want), c)
	}
}

// checkQuote holds Quote against fmt, and unquotes what it tells (P6.3).
func checkQuote(t *testing.T, s string) {
	t.Helper()
	want, c := quoted(s)
	wantQuote(t, s, want, c)
	if c == api.Fine {
		wantUnquote(t, want, s, api.Fine)
	}
}

// checkUnquote holds Unquote against the patterns.
func checkUnquote(t *testing.T, s string) api.Code {
	t.Helper()
	want, c := unquoted(s)
	wantUnquote(t, s, want, c)
	return c
}

// P6.1: Letter.

func TestLetterByHand(t *testing.T) {
	for _, ends := range [][2]rune{{'a', 'z'}, {'A', 'Z'}, {0xC0, 0xD6}, {0xD8, 0xF6}, {0xF8, 0x24F}, {0x370, 0x3FF}, {0x400, 0x4FF}} {
		for r := ends[0]; r <= ends[1]; r++ {
			if !text.Letter(r) {
				t.Errorf("Letter(%U) is false", r)
			}
		}
	}
	for _, r := range []rune{'a' - 1, 'z' + 1, 'A' - 1, 'Z' + 1, 0xBF, 0xD7, 0xF7, 0x250, 0x36F, 0x500, '0', '9', '_', '-', ' ', '"', '\\', 0, 0x7F, 0x80, 0xAA, 0xB5, 0xBA, 0x531, 0x1E00, 0x4E00, 0xFF21, 0xFFFD, 0x1D400} {
		if text.Letter(r) {
			t.Errorf("Letter(%U) is true", r)
		}
	}
}

func TestLetterOfAllRunes(t *testing.T) {
	for r := rune(0); r <= utf8.MaxRune; r++ {
		// What is no rune's number would be the rune FFFD to the pattern, which is no letter, either.
		if want := r < 0x2000 && letterPattern.MatchString(string(r)); text.Letter(r) != want {
			t.Fatalf("Letter(%U) isn't %t", r, want)
		}
	}
}

func TestLetterOfNoRunes(t *testing.T) {
	for _, r := range noRunes() {
		if text.Letter(r) {
			t.Errorf("Letter(%d) is true", r)
		}
	}
	for r := rune(-70000); r < 0; r++ {
		if text.Letter(r) || text.Letter(utf8.MaxRune-r) {
			t.Fatalf("Letter(%d) or Letter(%d) is true", r, utf8.MaxRune-r)
		}
	}
}

// P6.1: Name.

func TestNames(t *testing.T) {
	for _, s := range []string{
		"a", "z", "A", "Z", "À", "ɏ", "Ö", "Ø", "ö", "ø", "Ͱ", "Ͽ", "Ѐ", "ӿ", "ж", "Ω",
		"ab", "a1", "a0", "a9", "aZ", "é1", "Жук", "naïve", "ĀɎ", "a-b", "a_b", "a-1", "a_1", "a--b", "a__b", "a-_-b", "a-b_c9", "a1b2", "a123", "api-latency_99", "A-B", "a_-_-_0",
		strings.Repeat("a", 23), strings.Repeat("a", 24), strings.Repeat("ж", 24), strings.Repeat("é", 23) + "9", "a" + strings.Repeat("-", 22) + "b", "я" + strings.Repeat("_", 22) + "0", "a" + strings.Repeat("7", 23), strings.Repeat("aж", 12),
	} {
		if !text.Name(s) {
			t.Errorf("Name(%q) is false", s)
		}
	}
}

func TestNoNames(t *testing.T) {
	l := []string{
		"", " ", "0", "9", "_", "-", "__", "--", "0a", "1a", "9z", "_a", "-a", "a_", "a-", "ab_", "ab-", "a--", "a__", "a-_", "é-", "ж_", "-", "_1", "-1", "1-", "01", "1", "a1-", "a1_",
		"a b", " a", "a ", "a\n", "\na", "a\t", "a\x00", "\x00", "a.b", "a/b", "a:b", "a,b", "a;", "a=b", "a@b", "a[b", "a`b", "a{b", "a}", "\"a\"", "a\"", "a\\b", "a%", "a+b", "a*", "?", "a?b", "!",
		"×", "÷", "a×b", "a÷b", "aר", "¿", "a¿", "ɐ", "aɐ", "ɐa", "\u036f", "a\u0301", "a\u036fb", "Ԁ", "aԀ", "日本", "a本", "ａ", "ª", "µ", "º", "ß\u200b", "٣", "a٣", "a１", "１", "a½", "a²", "a–b", "a‐b", "a\u00adb", "a＿b", "a−b", "a\u00a0b", "\ufeffa", "𝐚", "a😀",
		strings.Repeat("a", 25), strings.Repeat("ж", 25), strings.Repeat("é", 24) + "9", "a" + strings.Repeat("-", 23) + "b", strings.Repeat("a", 24) + "-", strings.Repeat("a", 24) + "_", strings.Repeat("a", 23) + "-", strings.Repeat("ж", 23) + "_", strings.Repeat("a", 24) + " ", strings.Repeat("a", 24) + "\xff", strings.Repeat("ж", 24) + "9",
		"\ufffd", "a\ufffd", "a\ufffdb", "\ufffda",
	}
	for bad := range bads {
		l = append(l, bad, bad+"a", "a"+bad, "a"+bad+"b", strings.Repeat("a", 23)+bad, strings.Repeat("ж", 22)+bad+"ж")
	}
	for _, s := range l {
		if text.Name(s) {
			t.Errorf("Name(%+q) is true", s)
		}
	}
	for _, piece := range []string{"a", "ж", "a-", "_", "\xff", "a1"} {
		if text.Name(strings.Repeat(piece, 1000000)) {
			t.Errorf("Name of a million times %+q is true", piece)
		}
	}
}

// P6.1: all names of few runes, of each kind of rune, and just as long as names may be.

func TestNameOfAllShortTexts(t *testing.T) {
	kinds := []string{"b", "Ж", "5", "_", "-", "×", " ", "\xff"}
	l := []string{""}
	for range 5 {
		var more []string
		for _, s := range l {
			for _, kind := range kinds {
				more = append(more, s+kind)
			}
		}
		for _, s := range more {
			for _, x := range []string{s, "q" + strings.Repeat("z", 18) + s, "q" + strings.Repeat("я", 19) + s, s + strings.Repeat("-", 18) + "q"} {
				if text.Name(x) != namePattern.MatchString(x) {
					t.Fatalf("Name(%+q) isn't %t", x, namePattern.MatchString(x))
				}
			}
		}
		l = more
	}
}

func TestNameOfEachRuneAtEachPlace(t *testing.T) {
	check := func(s string) {
		t.Helper()
		if text.Name(s) != namePattern.MatchString(s) {
			t.Fatalf("Name(%+q) isn't %t", s, namePattern.MatchString(s))
		}
	}
	for r := rune(0); r < 0x600; r++ {
		for _, s := range []string{string(r), string(r) + "a", "a" + string(r), "a" + string(r) + "b"} {
			check(s)
		}
	}
	for b := range 256 {
		one := string([]byte{byte(b)})
		for _, s := range []string{one, one + "a", "a" + one, "a" + one + "b", "ж" + one, one + "\xb0", "a" + one + "\x80"} {
			check(s)
		}
	}
}

// P6.1: Good, Count and Cut.

func TestGoodAndCountByHand(t *testing.T) {
	check := func(s string, isGood bool, count int) {
		t.Helper()
		if text.Good(s) != isGood {
			t.Errorf("Good(%s) isn't %t", shown(s), isGood)
		}
		if n := text.Count(s); n != count {
			t.Errorf("Count(%s): %d, not %d", shown(s), n, count)
		}
	}
	check("", true, 0)
	check("abc", true, 3)
	check("aé€😀", true, 4)
	check("\ufffd", true, 1)
	check("\ufffd\ufffd", true, 2)
	check("e\u0301", true, 2)
	check("\x00\x00", true, 2)
	check("aé\xff\xc3😀", false, 5)
	check(strings.Repeat("😀", 100000), true, 100000)
	check(strings.Repeat("\xff", 100000), false, 100000)
	for _, s := range goods {
		check(s, true, 1)
		check("a"+s+"b", true, 3)
	}
	for bad, n := range bads {
		check(bad, false, n)
		check(bad+"é", false, n+1)
		check("a"+bad+"b", false, n+2)
		check("é"+bad, false, n+1)
		check("\ufffd"+bad+"\ufffd", false, n+2)
		check(strings.Repeat("ж", 1000)+bad, false, n+1000)
	}
}

func TestCutByHand(t *testing.T) {
	for _, x := range []struct {
		s    string
		n    int
		want string
	}{
		{"", 0, ""}, {"", 1, ""}, {"", -1, ""}, {"", math.MaxInt, ""}, {"", math.MinInt, ""},
		{"ab", -1, ""}, {"ab", 0, ""}, {"ab", 1, "a"}, {"ab", 2, "ab"}, {"ab", 3, "ab"}, {"ab", 9, "ab"}, {"ab", math.MaxInt, "ab"}, {"ab", math.MinInt, ""}, {"ab", math.MinInt + 1, ""}, {"ab", 1 << 32, "ab"}, {"ab", -1 << 32, ""},
		{"é€😀x", 1, "é"}, {"é€😀x", 2, "é€"}, {"é€😀x", 3, "é€😀"}, {"é€😀x", 4, "é€😀x"}, {"é€😀x", 5, "é€😀x"}, {"é€😀x", 0, ""},
		{"aé\xffb", 2, "aé"}, {"aé\xffb", 3, "aé\xff"}, {"aé\xffb", 4, "aé\xffb"}, {"\xffa", 1, "\xff"}, {"a\xff", 1, "a"}, {"a\xff", 2, "a\xff"}, {"\xff", 0, ""},
		{"\ufffda", 1, "\ufffd"}, {"\ufffd\xff\ufffd", 2, "\ufffd\xff"}, {"\xff\ufffd", 1, "\xff"},
		// a rune cut short, one not in its shortest form, a half of a pair
		{"\xe2\x82a", 1, "\xe2"}, {"\xe2\x82a", 2, "\xe2\x82"}, {"\xe2\x82a", 3, "\xe2\x82a"}, {"a\xe2\x82", 2, "a\xe2"}, {"\xc1\xa1b", 1, "\xc1"}, {"\xc1\xa1b", 2, "\xc1\xa1"}, {"\xed\xa0\x80é", 1, "\xed"}, {"\xed\xa0\x80é", 2, "\xed\xa0"}, {"\xed\xa0\x80é", 3, "\xed\xa0\x80"}, {"\xed\xa0\x80é", 4, "\xed\xa0\x80é"},
		{strings.Repeat("é", 100000), 99999, strings.Repeat("é", 99999)},
	} {
		if s := text.Cut(x.s, x.n); s != x.want {
			t.Errorf("Cut(%s, %d): %s, not %s", shown(x.s), x.n, shown(s), shown(x.want))
		}
	}
}

func TestGoodCountAndCutOfAnyTexts(t *testing.T) {
	for _, s := range append(texts(), shorts()...) {
		l := pieces(s)
		if text.Good(s) != good(s) {
			t.Fatalf("Good(%+q) isn't %t", s, good(s))
		}
		if n := text.Count(s); n != len(l) || n != len([]rune(s)) {
			t.Fatalf("Count(%+q): %d, not %d", s, n, len(l))
		}
		for n := -1; n <= len(l)+1; n++ {
			want := strings.Join(l[:min(max(n, 0), len(l))], "")
			if c := text.Cut(s, n); c != want {
				t.Fatalf("Cut(%+q, %d): %+q, not %+q", s, n, c, want)
			}
		}
	}
}

// P6.1: Fold.

func TestFoldByHand(t *testing.T) {
	for s, want := range map[string]string{
		"": "", "A": "a", "Z": "z", "a": "a", "z": "z", "ABCDEFGHIJKLMNOPQRSTUVWXYZ": "abcdefghijklmnopqrstuvwxyz", "abcdefghijklmnopqrstuvwxyz": "abcdefghijklmnopqrstuvwxyz", "AbÉ_Z": "abÉ_z",
		"@[`{": "@[`{", "0123456789_-": "0123456789_-", " !\"#\\\n\t\x00\x7f": " !\"#\\\n\t\x00\x7f",
		// letters that are not A to Z
		"ÀÖØÞĀŸɎ": "ÀÖØÞĀŸɎ", "ΑΩ": "ΑΩ", "ЖЯ": "ЖЯ", "É": "É", "ß": "ß", "İ": "İ", "\u212a": "\u212a", "Ａ": "Ａ", "𝐀": "𝐀", "e\u0301E\u0301": "e\u0301e\u0301", "ÉAÉ": "ÉaÉ", "Ł": "Ł", "\u0241": "\u0241", "\u0441": "\u0441",
		// bad bytes, and what stands for them
		"\xff": "\xff", "A\xffZ": "a\xffz", "\xc3A": "\xc3a", "\xe2\x82A": "\xe2\x82a", "\xc1\x81": "\xc1\x81", "\xc1A": "\xc1a", "\xed\xa0\x80B": "\xed\xa0\x80b", "\x80Z\x9a\xc1\xda": "\x80z\x9a\xc1\xda", "\ufffdA": "\ufffda",
	} {
		if f := text.Fold(s); f != want {
			t.Errorf("Fold(%+q): %+q, not %+q", s, f, want)
		}
	}
}

func TestFoldOfAnyTexts(t *testing.T) {
	var turns []string
	for r := 'A'; r <= 'Z'; r++ {
		turns = append(turns, string(r), string(r+32))
	}
	folds := strings.NewReplacer(turns...)
	l := append(texts(), shorts()...)
	for r := rune(0); r < 0x3000; r++ {
		l = append(l, string(r))
	}
	for _, s := range l {
		if f := text.Fold(s); f != folds.Replace(s) || text.Fold(f) != f {
			t.Fatalf("Fold(%+q): %+q, not %+q", s, f, folds.Replace(s))
		}
	}
	if f := text.Fold(strings.Repeat("AzÉ\xff", 100000)); f != strings.Repeat("azÉ\xff", 100000) {
		t.Error("Fold of a long text")
	}
}

// P6.2: Quote; what is quoted is unquoted (P6.3).

func TestQuoteByHand(t *testing.T) {
	for s, want := range map[string]string{
		"": `""`, "a": `"a"`, "a\"b": `"a\"b"`, "\"": `"\""`, "\"\"": `"\"\""`, "\\": `"\\"`, "\\\\": `"\\\\"`, "\\\"": `"\\\""`, "\n": `"\n"`, "\t": `"\t"`, "a\n\tb": `"a\n\tb"`, " ": `" "`, "  a  ": `"  a  "`, "!": `"!"`, "~": `"~"`, "'": `"'"`, "/": `"/"`,
		"\x00": `"\u{0}"`, "\x01": `"\u{1}"`, "\x07": `"\u{7}"`, "\x08": `"\u{8}"`, "\x0b": `"\u{b}"`, "\x0c": `"\u{c}"`, "\r": `"\u{d}"`, "\x0e": `"\u{e}"`, "\x0f": `"\u{f}"`, "\x10": `"\u{10}"`, "\x1a": `"\u{1a}"`, "\x1b": `"\u{1b}"`, "\x1e": `"\u{1e}"`, "\x1f": `"\u{1f}"`, "\x7f": `"\u{7f}"`, "\x00\x00": `"\u{0}\u{0}"`, "\x010": `"\u{1}0"`,
		"\u0080": "\"\u0080\"", "\u0085": "\"\u0085\"", "\u009f": "\"\u009f\"", "\u00a0": "\"\u00a0\"", "é": `"é"`, "€": `"€"`, "😀": `"😀"`, "\u00ad": "\"\u00ad\"", "\u2028": "\"\u2028\"", "\u202e": "\"\u202e\"", "\ufeff": "\"\ufeff\"", "\ufffd": "\"\ufffd\"", "\uffff": "\"\uffff\"", "\ud7ff\ue000": "\"\ud7ff\ue000\"", "\U0010ffff": "\"\U0010ffff\"",
		// what looks as if it stood for another rune
		`\n`: `"\\n"`, `\t`: `"\\t"`, `\u{41}`: `"\\u{41}"`, "u{41}": `"u{41}"`, "{}": `"{}"`, `n`: `"n"`, `"a"`: `"\"a\""`,
	} {
		wantQuote(t, s, want, api.Fine)
		wantUnquote(t, want, s, api.Fine)
	}
}

func TestQuoteOfEachRune(t *testing.T) {
	for r := rune(0); r <= utf8.MaxRune; r++ {
		if r > 0x3000 && r < 0xD000 || r > 0x10800 && r < 0x10F000 || !utf8.ValidRune(r) {
			continue
		}
		for _, s := range []string{string(r), "a" + string(r), string(r) + "0"} {
			checkQuote(t, s)
		}
	}
}

func TestQuoteLong(t *testing.T) {
	for _, piece := range []string{"a", "é", "€", "😀", "\"", "\\", "\n", "\t", "\x00", "\x7f", "\ufffd", " "} {
		for _, n := range []int{119, 120} {
			s := strings.Repeat(piece, n)
			want, _ := quoted(s)
			wantQuote(t, s, want, api.Fine)
			wantUnquote(t, want, s, api.Fine)
		}
		for _, n := range []int{121, 122, 240, 1000, 100000} {
			wantQuote(t, strings.Repeat(piece, n), "", api.Long)
		}
	}
}

func TestQuoteWord(t *testing.T) {
	for bad := range bads {
		for _, s := range []string{bad, bad + "a", "a" + bad, "a" + bad + "b", "\ufffd" + bad, "\"" + bad + "\""} {
			wantQuote(t, s, "", api.Word)
		}
		// Word is looked for ahead of Long.
		for _, n := range []int{118, 119, 120, 121, 1000} {
			s := strings.Repeat("é", n)
			for _, x := range []string{s + bad, bad + s, s[:n/2*2] + bad + s[n/2*2:], s + bad + s} {
				wantQuote(t, x, "", api.Word)
			}
		}
	}
	wantQuote(t, strings.Repeat("a", 120)+"\xff", "", api.Word)
	wantQuote(t, strings.Repeat("a", 1000000)+"\xff", "", api.Word)
}

func TestQuoteOfAnyTexts(t *testing.T) {
	for _, s := range append(texts(), shorts()...) {
		checkQuote(t, s)
	}
	r := rand.New(rand.NewSource(62))
	for range 5000 {
		var l []rune
		for range 110 + r.Intn(14) {
			l = append(l, rune(r.Intn(1<<(1+r.Intn(20)))))
		}
		checkQuote(t, string(l))
	}
}

// P6.2: Unquote of quoted texts that are no prints.

func TestUnquoteOfOtherThanPrints(t *testing.T) {
	for s, want := range map[string]string{
		`"\u{41}"`: "A", `"\u{61}b"`: "ab", `"\u{41}\u{000042}"`: "AB", `"\u{22}"`: "\"", `"\u{5c}"`: "\\", `"\u{5c}n"`: "\\n", `"\u{22}\u{22}"`: "\"\"", `"\u{a}"`: "\n", `"\u{9}"`: "\t", `"\u{20}"`: " ", `"\u{7b}\u{7d}"`: "{}", `"\u{7e}"`: "~",
		// noughts ahead, up to six digits
		`"\u{00}"`: "\x00", `"\u{000}"`: "\x00", `"\u{000000}"`: "\x00", `"\u{01}"`: "\x01", `"\u{00001f}"`: "\x1f", `"\u{07f}"`: "\x7f", `"\u{00007f}"`: "\x7f", `"\u{0041}"`: "A", `"\u{00041}"`: "A", `"\u{01f600}"`: "😀", `"\u{00e9}"`: "é",
		// runes that may stand for themselves, up to the last one, and beside halves of pairs
		`"\u{80}"`: "\u0080", `"\u{e9}"`: "é", `"\u{20ac}"`: "€", `"\u{1f600}"`: "😀", `"\u{d7ff}"`: "\ud7ff", `"\u{e000}"`: "\ue000", `"\u{00d7ff}"`: "\ud7ff", `"\u{fffd}"`: "\ufffd", `"\u{ffff}"`: "\uffff", `"\u{10000}"`: "\U00010000", `"\u{010000}"`: "\U00010000", `"\u{fffff}"`: "\U000fffff", `"\u{0fffff}"`: "\U000fffff", `"\u{100000}"`: "\U00100000", `"\u{10ffff}"`: "\U0010ffff", `"\u{bcdef}"`: "\U000bcdef", `"\u{a0}\u{f}"`: "\u00a0\x0f",
		// one behind the other
		`"\u{41}1"`: "A1", `"\u{41}{41}"`: "A{41}", `"\u{41}}"`: "A}", `"\\u{41}"`: `\u{41}`, `"\\\u{41}"`: `\A`, `"\u{41}\n\u{0}\""`: "A\n\x00\"", `"u{41}"`: "u{41}", `"}{"`: "}{",
	} {
		wantUnquote(t, s, want, api.Fine)
	}
}

// P6.2: Word.

func TestUnquoteWord(t *testing.T) {
	for _, s := range []string{
		// nothing, no mark at the front or at the end, and more behind the last one
		"", "\"", "a", "ab", "a\"", "\"a", "ab\"", "\"ab", "'a'", "`a`", "“a”", "\"a'", "'a\"", "\"a”", " \"a\"", "\"a\" ", "\"a\"\n", "\n\"a\"", "x\"a\"", "\"a\"x", "\"a\"b", "\"\"\"", "\"\"\"\"", "\"\"a", "\"\"a\"", "\"a\"\"", "\"a\"b\"", "\"a\"\"b\"", "\"a\\\"", "\"a\"\\", "\"a\"\\n", "\"a\"\x00", "\"\"\ufffd", "\ufeff\"a\"", "\\\"a\"", "\\\"", "\\", "n", "\\n",
		// a backslash at the end, and ahead of any other
		"\"\\\"", "\"\\", "\"a\\", "\"\\\\\\\"", "\"\\\\\"\"", "\"\\ \"", "\"\\a\"", "\"\\b\"", "\"\\f\"", "\"\\r\"", "\"\\v\"", "\"\\0\"", "\"\\x41\"", "\"\\101\"", "\"\\U{41}\"", "\"\\U0001f600\"", "\"\\N\"", "\"\\T\"", "\"\\'\"", "\"\\/\"", "\"\\{41}\"", "\"\\\n\"", "\"\\\t\"", "\"\\é\"", "\"\\\ufffd\"", "\"\\\x00\"", "\"\\\xff\"",
		// a number without a brace, or without digits, and not closed
		"\"\\u\"", "\"\\u", "\"\\u{\"", "\"\\u{", "\"\\u{}\"", "\"\\u{}", "\"\\u}\"", "\"\\u41\"", "\"\\u41}\"", "\"\\u0041\"", "\"\\u(41)\"", "\"\\u[41]\"", "\"\\u {41}\"", "\"\\u{41\"", "\"\\u{41", "\"\\u{4", "\"\\u{41}", "\"\\u{000041\"", "\"\\u{41\\\"", "\"\\u{41)\"", "\"\\u{41]\"", "\"\\u{41\\}\"", "\"\\u{{41}\"", "\"\\u{{41}}\"", "\"\\u{41 }\"", "\"\\u{ 41}\"", "\"\\u{4 1}\"", "\"\\u{41,42}\"", "\"\\u{41\n}\"", "\"\\u{\\u{41}}\"", "\"\\u{\"}\"", "\"\\u{4\"1}\"",
		// seven digits and more
		"\"\\u{0000000}\"", "\"\\u{0000041}\"", "\"\\u{0010ffff}\"", "\"\\u{1000000}\"", "\"\\u{0000001}\"", "\"\\u{00000041}\"", "\"\\u{100000041}\"", "\"\\u{10000000000000041}\"", "\"\\u{fffffff}\"", "\"\\u{ffffffff}\"", "\"\\u{ffffffffffffffff}\"", "\"\\u{" + strings.Repeat("0", 100000) + "41}\"", "\"\\u{" + strings.Repeat("f", 100000) + "}\"", "\"\\u{" + strings.Repeat("0", 100000) + "\"",
		// capital digits, and others
		"\"\\u{4A}\"", "\"\\u{A}\"", "\"\\u{F}\"", "\"\\u{4G}\"", "\"\\u{4g}\"", "\"\\u{g}\"", "\"\\u{1F600}\"", "\"\\u{10FFFF}\"", "\"\\u{+41}\"", "\"\\u{-41}\"", "\"\\u{-1}\"", "\"\\u{0x41}\"", "\"\\u{x41}\"", "\"\\u{4_1}\"", "\"\\u{4.1}\"", "\"\\u{:}\"", "\"\\u{/}\"", "\"\\u{`}\"", "\"\\u{@}\"", "\"\\u{４１}\"", "\"\\u{٤}\"", "\"\\u{а}\"", "\"\\u{é}\"", "\"\\u{U+41}\"", "\"\\u{4\x00}\"",
		// numbers that are no rune's, and halves of pairs
		"\"\\u{d800}\"", "\"\\u{d801}\"", "\"\\u{dbff}\"", "\"\\u{dc00}\"", "\"\\u{dfff}\"", "\"\\u{00d800}\"", "\"\\u{0dfff}\"", "\"\\u{d83d}\\u{de00}\"", "\"\\u{110000}\"", "\"\\u{110001}\"", "\"\\u{200000}\"", "\"\\u{abcdef}\"", "\"\\u{ffffff}\"", "\"\\u{a00000}\"", "\"\\u{800041}\"", "\"\\u{41}\\u{d800}\"", "\"\\u{d800}\\u{41}\"",
		// runes below the blank, and 007F
		"\"\n\"", "\"\t\"", "\"\r\"", "\"\x00\"", "\"\x01\"", "\"\x1f\"", "\"\x7f\"", "\"a\nb\"", "\"a\tb\"", "\"a\x7fb\"", "\"a\x00\"", "\"\x1fa\"", "\"\x7f", "\"a\x7f\"b",
	} {
		wantUnquote(t, s, "", api.Word)
		if _, c := unquoted(s); c != api.Word {
			t.Errorf("the patterns tell %d of %+q", c, s)
		}
	}
	for r := range rune(0x20) {
		wantUnquote(t, "\""+string(r)+"\"", "", api.Word)
		wantUnquote(t, "\"\\"+string(r)+"\"", "", api.Word)
		wantUnquote(t, "\"ab"+string(r)+"cd\"", "", api.Word)
	}
}

func TestUnquoteBadBytes(t *testing.T) {
	for bad := range bads {
		for _, s := range []string{
			bad, bad + "\"\"", "\"\"" + bad, "\"" + bad, bad + "\"", "\"" + bad + "\"", "\"a" + bad + "\"", "\"" + bad + "a\"", "\"é" + bad + "é\"", "\"\ufffd" + bad + "\"", "\"a\"" + bad, bad + "\"a\"",
			"\"\\" + bad + "\"", "\"\\n" + bad + "\"", "\"\\u" + bad + "\"", "\"\\u{" + bad + "}\"", "\"\\u{4" + bad + "1}\"", "\"\\u{41" + bad + "\"", "\"\\u{41}" + bad + "\"", "\"" + bad + "\\",
		} {
			wantUnquote(t, s, "", api.Word)
		}
	}
	wantUnquote(t, "\"\ufffd\"", "\ufffd", api.Fine)
	wantUnquote(t, "\"a\ufffd\ufffdb\"", "a\ufffd\ufffdb", api.Fine)
}

// P6.2: Long, by how many runes are quoted, however long that is written.

var writings = []string{"a", "é", "€", "😀", "\ufffd", " ", `\"`, `\\`, `\n`, `\t`, `\u{0}`, `\u{000041}`, `\u{10ffff}`}

func TestUnquoteLong(t *testing.T) {
	for _, piece := range writings {
		one, _ := unquoted("\"" + piece + "\"")
		for _, n := range []int{1, 119, 120} {
			wantUnquote(t, "\""+strings.Repeat(piece, n)+"\"", strings.Repeat(one, n), api.Fine)
		}
		for _, n := range []int{121, 122, 240, 1000, 100000} {
			wantUnquote(t, "\""+strings.Repeat(piece, n)+"\"", "", api.Long)
		}
	}
	for n := range 121 {
		s := strings.Repeat("é", n) + strings.Repeat(`\u{1f600}`, 120-n)
		wantUnquote(t, "\""+s+"\"", strings.Repeat("é", n)+strings.Repeat("😀", 120-n), api.Fine)
		wantUnquote(t, "\""+s+"x\"", "", api.Long)
		wantUnquote(t, "\"\\n"+s+"\"", "", api.Long)
	}
}

// P6.2: Word is looked for in all of the text, Long behind it.

func TestUnquoteWordAheadOfLong(t *testing.T) {
	for _, piece := range writings {
		for _, n := range []int{120, 121, 200, 20000} {
			s := strings.Repeat(piece, n)
			for _, wrong := range []string{"\n", "\x7f", "\xff", "\\", "\\x", "\\u", "\\u{", "\\u{}", "\\u{41", "\\u{d800}", "\\u{110000}", "\\u{0000041}", "\\u{4A}", "\"b", "\"\""} {
				wantUnquote(t, "\""+s+wrong+"\"", "", api.Word)
				// Between them stands what goes on with nothing that is wrong.
				wantUnquote(t, "\""+wrong+"é"+s+"\"", "", api.Word)
			}
			for _, x := range []string{s, "\"" + s, s + "\"", "\"" + s + "\"x", "x\"" + s + "\"", "\"" + s + "\"\xff", "\"" + s + "\"\""} {
				wantUnquote(t, x, "", api.Word)
			}
		}
	}
}

// P6.2: all short texts of what quoted texts are written with, and a little else, between marks and not.

func TestUnquoteAllShortTexts(t *testing.T) {
	const signs = "\"\\u{}4dnx\n\xff"
	l := []string{""}
	for range 5 {
		var more []string
		for _, s := range l {
			for i := range len(signs) {
				more = append(more, s+signs[i:i+1])
			}
		}
		for _, s := range more {
			checkUnquote(t, s)
			checkUnquote(t, "\""+s+"\"")
			if len(s) < 5 {
				checkUnquote(t, "\"\\u{"+s+"}\"")
			}
		}
		l = more
	}
}

// P6.2: each byte, and some runes, in place of each one of a quoted text, and between each two; and pieces of it.

func TestUnquoteOfEachByteAtEachPlace(t *testing.T) {
	var ones []string
	for b := range 256 {
		ones = append(ones, string([]byte{byte(b)}))
	}
	for _, r := range "é４٤“\u0080\ufffd\u2028\U0010ffff" {
		ones = append(ones, string(r))
	}
	for _, s := range []string{`""`, `"a"`, `"\\\""`, `"\n\t"`, `"\u{41}"`, `"\u{10ffff}b"`, `"\u{00d7ff}"`, `"\u{e000}"`, `"é\u{0}€"`} {
		for i := range len(s) {
			for _, one := range ones {
				checkUnquote(t, s[:i]+one+s[i+1:])
				checkUnquote(t, s[:i]+one+s[i:])
			}
			checkUnquote(t, s[:i])
			checkUnquote(t, s[i:])
			checkUnquote(t, s[:i]+s[i+1:])
			checkUnquote(t, s[i:]+s[:i])
		}
		for _, one := range ones {
			checkUnquote(t, s+one)
		}
	}
}

// P6.2: all numbers of up to six digits that are near what turns there, and many others.

func TestUnquoteOfNumbers(t *testing.T) {
	check := func(n int) {
		for _, form := range []string{"%x", "%04x", "%06x", "%X", "%d", "%07x"} {
			checkUnquote(t, "\"\\u{"+fmt.Sprintf(form, n)+"}\"")
		}
	}
	for _, n := range []int{0, 0x1f, 0x7f, 0xff, 0xfff, 0xd800, 0xdc00, 0xdfff, 0xffff, 0x10000, 0xfffff, 0x110000, 0xffffff} {
		for beside := -40; beside <= 40; beside++ {
			if n+beside >= 0 {
				check(n + beside)
			}
		}
	}
	r := rand.New(rand.NewSource(63))
	for range 10000 {
		check(r.Intn(1<<24) >> r.Intn(24))
	}
}

// P6.2 and P6.3: any pieces, one behind the other, long and short, some of them broken.

func TestUnquoteOfAnyPieces(t *testing.T) {
	parts := append([]string{"\"", "\\", "\\u{", "}", "\n", "\xff", `\u{d800}`, `\u{110000}`, `\u{A}`, `\x`}, append(goods, writings...)...)
	r := rand.New(rand.NewSource(64))
	codes := map[api.Code]int{}
	for range 30000 {
		s := ""
		for range []int{r.Intn(6), r.Intn(6), 117 + r.Intn(7)}[r.Intn(3)] {
			if r.Intn(60) == 0 {
				s += parts[r.Intn(len(parts))]
			} else {
				s += writings[r.Intn(len(writings))]
			}
		}
		if r.Intn(20) > 0 {
			s = "\"" + s + "\""
		}
		codes[checkUnquote(t, s)]++
		checkQuote(t, s)
	}
	for _, c := range []api.Code{api.Fine, api.Word, api.Long} {
		if codes[c] < 2000 {
			t.Errorf("code %d came up %d times only", c, codes[c])
		}
	}
	for _, s := range append(texts(), shorts()...) {
		checkUnquote(t, s)
		checkUnquote(t, "\""+s+"\"")
	}
}
