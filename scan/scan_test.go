package scan_test

import (
	"fmt"
	"math"
	"math/big"
	"math/rand"
	"regexp"
	"slices"
	"strconv"
	"strings"
	"testing"
	"unicode/utf8"

	"firebell/api"
	"firebell/scan"
)

// The kinds of tokens, in their order.
var kinds = []int{api.TokEnd, api.TokName, api.TokText, api.TokCount, api.TokFactor, api.TokShare, api.TokSpan, api.TokOpen, api.TokShut, api.TokStop}

func name(s string) api.Tok     { return api.Tok{Kind: api.TokName, Text: s} }
func quote(s string) api.Tok    { return api.Tok{Kind: api.TokText, Text: s} }
func count(n uint64) api.Tok    { return api.Tok{Kind: api.TokCount, N: n} }
func factor(n uint64) api.Tok   { return api.Tok{Kind: api.TokFactor, N: n} }
func share(n uint64) api.Tok    { return api.Tok{Kind: api.TokShare, N: n} }
func ticks(n uint64) api.Tok    { return api.Tok{Kind: api.TokSpan, N: n} }
func at(line, col int) api.Spot { return api.Spot{Line: line, Col: col} }
func put(t api.Tok, line, col int) api.Tok {
	t.At = at(line, col)
	return t
}

var (
	end  = api.Tok{Kind: api.TokEnd}
	open = api.Tok{Kind: api.TokOpen}
	shut = api.Tok{Kind: api.TokShut}
	stop = api.Tok{Kind: api.TokStop}
)

func fault(c api.Code, line, col int) api.Fault { return api.Fault{Code: c, At: at(line, col)} }

// shown is a text in a test's words, cut off where it is very long.
func shown(s string) string {
	if len(s) > 300 {
		return fmt.Sprintf("%s.. of %d bytes", strconv.QuoteToASCII(s[:300]), len(s))
	}
	return strconv.QuoteToASCII(s)
}

func shownAll(l []api.Tok) string {
	var b strings.Builder
	for i, t := range l {
		if i == 30 {
			fmt.Fprintf(&b, ".. of %d", len(l))
			break
		}
		fmt.Fprintf(&b, "[%d %s %d at %d,%d]", t.Kind, shown(t.Text), t.N, t.At.Line, t.At.Col)
	}
	return b.String()
}

// wantTokens: they are just these.
func wantTokens(t *testing.T, s string, want ...api.Tok) {
	t.Helper()
	if l, f := scan.Tokens(s); f != (api.Fault{}) || !slices.Equal(l, want) {
		t.Errorf("Tokens(%s): %s, %v, not %s", shown(s), shownAll(l), f, shownAll(want))
	}
}

// wantFault: there is this one, and no tokens.
func wantFault(t *testing.T, s string, want api.Fault) {
	t.Helper()
	if l, f := scan.Tokens(s); f != want || len(l) != 0 {
		t.Errorf("Tokens(%s): %s, %v, not %v", shown(s), shownAll(l), f, want)
	}
}

// wantValue: by Value, and by Tokens with and without something around.
func wantValue(t *testing.T, s string, want api.Tok) {
	t.Helper()
	if x, c := scan.Value(s); x != want || c != api.Fine {
		t.Errorf("Value(%s): %s, %d, not %s", shown(s), shownAll([]api.Tok{x}), c, shownAll([]api.Tok{want}))
	}
	wantTokenOf(t, s, want)
}

// wantTokenOf: a source of one line is that token, whatever is around.
func wantTokenOf(t *testing.T, s string, want api.Tok) {
	t.Helper()
	n := utf8.RuneCountInString(s)
	wantTokens(t, s, put(want, 1, 1), put(end, 1, n+1))
	wantTokens(t, "{"+s+";", put(open, 1, 1), put(want, 1, 2), put(stop, 1, n+2), put(end, 1, n+3))
	wantTokens(t, "#\n\t"+s+"#", put(want, 2, 2), put(end, 2, n+3))
}

// wantNoValue: Value has none.
func wantNoValue(t *testing.T, s string, c api.Code) {
	t.Helper()
	if x, d := scan.Value(s); x != (api.Tok{}) || d != c {
		t.Errorf("Value(%s): %s, %d, not %d", shown(s), shownAll([]api.Tok{x}), d, c)
	}
}

// wantNoWord: neither Value nor Tokens have a token for the word.
func wantNoWord(t *testing.T, s string, c api.Code) {
	t.Helper()
	wantNoValue(t, s, c)
	wantNoToken(t, s, c)
}

// wantNoToken: the fault is where it begins, whatever is around.
func wantNoToken(t *testing.T, s string, c api.Code) {
	t.Helper()
	wantFault(t, s, fault(c, 1, 1))
	wantFault(t, "é{"+s, fault(c, 1, 3))
	wantFault(t, " #\n;\n\t\t"+s+"\n@", fault(c, 3, 3))
}

// right tokens of each kind, with how they are printed.
func prints() map[api.Tok]string {
	return map[api.Tok]string{
		end: "", open: "{", shut: "}", stop: ";",
		name("a"): "a", name("Z9"): "Z9", name("é_-ж"): "é_-ж", name(strings.Repeat("ω", 24)): strings.Repeat("ω", 24),
		quote(""): `""`, quote("a"): `"a"`, quote("a b#{};"): `"a b#{};"`, quote("\"\\\n\t"): `"\"\\\n\t"`, quote("\x00\x1f\x7f"): `"\u{0}\u{1f}\u{7f}"`, quote("é\ufffd😀"): "\"é\ufffd😀\"", quote(strings.Repeat("é", 120)): `"` + strings.Repeat("é", 120) + `"`, quote(strings.Repeat("\r", 120)): `"` + strings.Repeat(`\u{d}`, 120) + `"`,
		count(0): "0", count(7): "7", count(10): "10", count(999): "999", count(1 << 63): "9223372036854775808", count(math.MaxUint64): "18446744073709551615",
		factor(0): "0.0", factor(1): "0.001", factor(10): "0.01", factor(50): "0.05", factor(100): "0.1", factor(101): "0.101", factor(120): "0.12", factor(999): "0.999", factor(1000): "1.0", factor(1001): "1.001", factor(1010): "1.01", factor(1100): "1.1", factor(3000): "3.0", factor(10000): "10.0", factor(14400): "14.4", factor(1000000): "1000.0", factor(1000500): "1000.5", factor(math.MaxUint64): "18446744073709551.615", factor(math.MaxUint64 - 5): "18446744073709551.61", factor(math.MaxUint64 - 615): "18446744073709551.0",
		share(0): "0%", share(1): "0.0001%", share(1000): "0.1%", share(999000): "99.9%", share(12345): "1.2345%", share(500000): "50%", share(999999): "99.9999%", share(1000000): "100%",
		ticks(0): "0s", ticks(1): "1s", ticks(60): "1m", ticks(5400): "1h30m", ticks(90061): "1d1h1m1s", ticks(604800): "1w", ticks(api.MaxTick): "418985w1d23h59m59s",
	}
}

// The chapter's examples, and the document's.
func TestExamples(t *testing.T) {
	wantValue(t, "14.4", factor(14400))
	wantValue(t, "1h30m", ticks(5400))
	wantValue(t, "99.9%", share(999000))
	wantTokens(t, "objective a { target 90%; grain 10s; rule r page { long 20s; short 10s; factor 1; } }",
		put(name("objective"), 1, 1), put(name("a"), 1, 11), put(open, 1, 13),
		put(name("target"), 1, 15), put(share(900000), 1, 22), put(stop, 1, 25),
		put(name("grain"), 1, 27), put(ticks(10), 1, 33), put(stop, 1, 36),
		put(name("rule"), 1, 38), put(name("r"), 1, 43), put(name("page"), 1, 45), put(open, 1, 50),
		put(name("long"), 1, 52), put(ticks(20), 1, 57), put(stop, 1, 60),
		put(name("short"), 1, 62), put(ticks(10), 1, 68), put(stop, 1, 71),
		put(name("factor"), 1, 73), put(count(1), 1, 80), put(stop, 1, 81),
		put(shut, 1, 83), put(shut, 1, 85), put(end, 1, 86))
}

// P13.1: sources without tokens, and where they end.
func TestEnds(t *testing.T) {
	for s, spot := range map[string]api.Spot{
		"": at(1, 1), " ": at(1, 2), "\t": at(1, 2), "\n": at(2, 1), "\n\n\n": at(4, 1), " \t \n \t": at(2, 3), "\n ": at(2, 2),
		"#": at(1, 2), "##": at(1, 3), " # ": at(1, 4), "#\n": at(2, 1), "# a\n": at(2, 1), "# a\n ": at(2, 2), "\n#a": at(2, 3), "#\n#\n": at(3, 1), "#\n#": at(2, 2),
		"#é😀": at(1, 4), "#\xff\xff\xe2\x82": at(1, 6), "#\xed\xa0\x80\n": at(2, 1), "# \t#\xff": at(1, 6),
		"#\r\n": at(2, 1), "#\x00\u2028\v\f\u0085": at(1, 7), `#"{;}@\`: at(1, 8),
	} {
		wantTokens(t, s, api.Tok{Kind: api.TokEnd, At: spot})
	}
	for s, spot := range map[string]api.Spot{
		"a": at(1, 2), "é": at(1, 2), "a ": at(1, 3), "a\n": at(2, 1), "a#": at(1, 3), "a#b\n": at(2, 1), "\na": at(2, 2),
		"{": at(1, 2), ";\n": at(2, 1), `"😀"`: at(1, 4), `"a#b"`: at(1, 6), "\"\"\n\n": at(3, 1), "7\t\t": at(1, 4), "100%": at(1, 5),
	} {
		l, f := scan.Tokens(s)
		if f != (api.Fault{}) || len(l) != 2 || l[1] != (api.Tok{Kind: api.TokEnd, At: spot}) {
			t.Errorf("Tokens(%s): %s, %v, not an end at %v", shown(s), shownAll(l), f, spot)
		}
	}
}

// P13.1: as many bytes as a source may have, and one more.
func TestMaxSource(t *testing.T) {
	const most = 40000
	if api.MaxSource != most {
		t.Fatal(api.MaxSource)
	}
	for _, unit := range []string{" ", "\n", "#", "\t"} {
		s := strings.Repeat(unit, most)
		spot := at(1, most+1)
		if unit == "\n" {
			spot = at(most+1, 1)
		}
		wantTokens(t, s, api.Tok{Kind: api.TokEnd, At: spot})
		wantFault(t, s+unit, fault(api.Long, 1, 1))
	}
	// Bytes count, not runes.
	wantTokens(t, "#"+strings.Repeat("é", (most-2)/2)+"\n", put(end, 2, 1))
	wantFault(t, "#"+strings.Repeat("é", most/2), fault(api.Long, 1, 1))
	wantTokens(t, strings.Repeat("0", most-1)+"s", put(ticks(0), 1, 1), put(end, 1, most+1))
	wantFault(t, strings.Repeat("0", most)+"s", fault(api.Long, 1, 1))
	wantFault(t, strings.Repeat("9", most), fault(api.Range, 1, 1))
	wantFault(t, strings.Repeat("a", most), fault(api.Word, 1, 1))
	wantFault(t, strings.Repeat("a", most+1), fault(api.Long, 1, 1))
	// Long is told ahead of all that is wrong besides.
	for s, c := range map[string]api.Code{"@": api.Word, "\xff": api.Word, "\"": api.Word, "7x": api.Word, "200%": api.Range, `"` + strings.Repeat("a", 121) + `"`: api.Long} {
		wantFault(t, s+strings.Repeat(" ", most+1-len(s)), fault(api.Long, 1, 1))
		wantFault(t, "\n "+s+strings.Repeat(" ", most), fault(api.Long, 1, 1))
		wantFault(t, "\n "+s+strings.Repeat(" ", most-2-len(s)), fault(c, 2, 2))
	}
	for _, n := range []int{most + 2, 2 * most, 1 << 20, 1 << 24} {
		wantFault(t, string(make([]byte, n)), fault(api.Long, 1, 1))
	}
	many, f := scan.Tokens(strings.Repeat(";", most))
	if f != (api.Fault{}) || len(many) != most+1 || many[most] != put(end, 1, most+1) || many[most-1] != put(stop, 1, most) {
		t.Error(len(many), f)
	}
}

// gaps of all sorts, of lines as many and runes of the last line as many.
var gapList = []struct {
	s           string
	lines, runs int
}{
	{" ", 0, 1}, {"\t", 0, 1}, {"\n", 1, 0}, {"  ", 0, 2}, {" \t", 0, 2}, {"\n\t", 1, 1}, {"\n\n", 2, 0}, {"#\n", 1, 0}, {"#a b\n ", 1, 1},
	{"#\"{};@\\\n", 1, 0}, {"#\xff\xc3é\x00\r\n\t\t", 1, 2}, {" ## \n#\"\n", 2, 0}, {"#é\n#ж\n  ", 2, 2}, {"#\u2028\u0085\n", 1, 0},
}

// P13.1, P13.4: each gap between each two tokens, ahead of the first and behind the last.
func TestGaps(t *testing.T) {
	all := prints()
	for a, first := range all {
		for b, second := range all {
			if a == end || b == end || len(first)+len(second) > 200 {
				continue
			}
			for _, g := range gapList {
				col := 1 + g.runs
				if g.lines == 0 {
					col += utf8.RuneCountInString(first)
				}
				last := put(end, 1+g.lines, col+utf8.RuneCountInString(second))
				wantTokens(t, first+g.s+second, put(a, 1, 1), put(b, 1+g.lines, col), last)
			}
		}
	}
	for _, g := range gapList {
		col := 1 + g.runs
		if g.lines == 0 {
			col += 1 + g.runs
		}
		wantTokens(t, g.s+"a"+g.s, put(name("a"), 1+g.lines, 1+g.runs), put(end, 1+2*g.lines, col))
	}
}

// P13.1: what isn't a gap, though it looks like one, and other runes that begin nothing.
func TestRunesThatBeginNothing(t *testing.T) {
	runes := []string{
		"\r", "\v", "\f", "\x00", "\x01", "\x08", "\x0e", "\x1b", "\x1f", "\x7f", "\u0080", "\u0085", "\u00a0", "\u1680", "\u2000", "\u2003", "\u2009", "\u200b", "\u2028", "\u2029", "\u202f", "\u205f", "\u3000", "\ufeff", "\ufffd", "\u00d7", "\u00f7",
		"!", "$", "&", "'", "(", ")", "*", "+", ",", "/", ":", "<", "=", ">", "?", "@", "[", "\\", "]", "^", "`", "|", "~",
		"中", "א", "あ", "ᾼ", "ɐ", "ʰ", "ͯ", "Ԁ", "¿", "»", "٣", "７", "²", "“", "”", "＂", "；", "｛", "😀", "\U0010ffff",
		"\xff", "\xfe", "\x80", "\xbf", "\xc3", "\xc0\x80", "\xe2\x82", "\xed\xa0\x80", "\xf0\x9f\x98", "\xf4\x90\x80\x80", "\xc1\xa1", "\xe0\x81\xa1", "\xc0\xa0", "\xe0\x80\xa0", "\xc0\x8a",
	}
	for _, r := range runes {
		wantNoWord(t, r, api.Word)
		wantFault(t, r+"a", fault(api.Word, 1, 1))
		wantFault(t, r+"\n", fault(api.Word, 1, 1))
		// It ends a word, and is itself the fault.
		wantFault(t, "a"+r, fault(api.Word, 1, 2))
		wantFault(t, "a\n "+"1h"+r, fault(api.Word, 2, 4))
		wantFault(t, `"a"`+r, fault(api.Word, 1, 4))
		wantFault(t, "#"+r+"\n"+r, fault(api.Word, 2, 1))
		// The fault ahead of it comes first.
		wantFault(t, "1x"+r, fault(api.Word, 1, 1))
		wantFault(t, "200%"+r, fault(api.Range, 1, 1))
		wantNoValue(t, "a"+r, api.Word)
		wantNoValue(t, r+"a", api.Word)
		wantNoValue(t, "1"+r, api.Word)
		wantNoValue(t, "1"+r+"%", api.Word)
		wantNoValue(t, "1.5"+r, api.Word)
		wantNoValue(t, "200%"+r, api.Word)
	}
	// All runes: those that may stand in a source alone are known.
	for r := rune(0); r <= utf8.MaxRune; r++ {
		l, f := scan.Tokens(string(r))
		want := modelTokens(string(r))
		if f != want.fault || !slices.Equal(l, want.tokens) {
			t.Fatalf("Tokens(%U): %s, %v, not %s, %v", r, shownAll(l), f, shownAll(want.tokens), want.fault)
		}
	}
	for b := range 256 {
		for _, s := range []string{string([]byte{byte(b)}), "a" + string([]byte{byte(b)}), "1" + string([]byte{byte(b)}) + "%", "\"" + string([]byte{byte(b)}) + "\"", "#" + string([]byte{byte(b)})} {
			compare(t, s)
		}
	}
}

// P13.1: remarks have anything in them, and end ahead of the line feed.
func TestRemarks(t *testing.T) {
	for b := range 256 {
		if b == '\n' {
			continue
		}
		s := "a#" + string([]byte{byte(b), byte(b)}) + "\n;"
		wantTokens(t, s, put(name("a"), 1, 1), put(stop, 2, 1), put(end, 2, 2))
		wantTokens(t, "#"+string([]byte{byte(b)}), put(end, 1, 3))
	}
	for s, spot := range map[string]api.Spot{
		`#"` + "\na": at(2, 1), "#\\\na": at(2, 1), "#\"\\\"\n a": at(2, 2), "#{\na": at(2, 1), "#}#{;\n\ta": at(2, 2), "##\na": at(2, 1), "#1x 200% @\n\n a": at(3, 2),
		"#\xe2\x82\na": at(2, 1), "#" + strings.Repeat("é", 1000) + "\na": at(2, 1),
	} {
		wantTokens(t, s, api.Tok{Kind: api.TokName, Text: "a", At: spot}, api.Tok{Kind: api.TokEnd, At: at(spot.Line, spot.Col+1)})
	}
	// In a text a # is no remark, and behind it is one.
	wantTokens(t, `"#"#"`, put(quote("#"), 1, 1), put(end, 1, 6))
	wantTokens(t, "\"a#b\"\n", put(quote("a#b"), 1, 1), put(end, 2, 1))
	wantTokens(t, "{#{\n}#}\n", put(open, 1, 1), put(shut, 2, 1), put(end, 3, 1))
	wantFault(t, "a # b\n @", fault(api.Word, 2, 2))
	wantFault(t, "#\n\"#\n\"", fault(api.Word, 2, 1))
}

// P13.1: places behind line feeds, tabs, runes of more bytes than one, bad bytes and quoted texts.
func TestPlaces(t *testing.T) {
	wantTokens(t, "é ж\tω\nα", put(name("é"), 1, 1), put(name("ж"), 1, 3), put(name("ω"), 1, 5), put(name("α"), 2, 1), put(end, 2, 2))
	wantTokens(t, "\t\ta\t\tb", put(name("a"), 1, 3), put(name("b"), 1, 6), put(end, 1, 7))
	wantTokens(t, "\n\n\n a", put(name("a"), 4, 2), put(end, 4, 3))
	wantTokens(t, "a\n\n\nb\n", put(name("a"), 1, 1), put(name("b"), 4, 1), put(end, 5, 1))
	wantTokens(t, `"é😀\n\u{e9}" a`, put(quote("é😀\né"), 1, 1), put(name("a"), 1, 14), put(end, 1, 15))
	wantTokens(t, "\"\ufffd\";", put(quote("\ufffd"), 1, 1), put(stop, 1, 4), put(end, 1, 5))
	wantTokens(t, "# \xff\xff\n# \xe2\x82\x28\n a", put(name("a"), 3, 2), put(end, 3, 3))
	wantTokens(t, "a # \xff\xfe", put(name("a"), 1, 1), put(end, 1, 7))
	wantTokens(t, "a # \xf0\x9f\x98", put(name("a"), 1, 1), put(end, 1, 8))
	wantTokens(t, "a # 😀", put(name("a"), 1, 1), put(end, 1, 6))
	wantTokens(t, "#\xff\n\n\t{\n\t\té 1;\n\t}\n", put(open, 3, 2), put(name("é"), 4, 3), put(count(1), 4, 5), put(stop, 4, 6), put(shut, 5, 2), put(end, 6, 1))
	wantFault(t, "é😀", fault(api.Word, 1, 2))
	wantFault(t, "#😀\xff\n\té \"ж\" @", fault(api.Word, 2, 8))
	wantFault(t, "\n\n\n\n\xff", fault(api.Word, 5, 1))
}

// P13.1: tokens right beside one another, with no gap.
func TestBeside(t *testing.T) {
	wantTokens(t, `a{b;}"c""d"e#f`, put(name("a"), 1, 1), put(open, 1, 2), put(name("b"), 1, 3), put(stop, 1, 4), put(shut, 1, 5), put(quote("c"), 1, 6), put(quote("d"), 1, 9), put(name("e"), 1, 12), put(end, 1, 15))
	wantTokens(t, `1{2}3;4"5"6`, put(count(1), 1, 1), put(open, 1, 2), put(count(2), 1, 3), put(shut, 1, 4), put(count(3), 1, 5), put(stop, 1, 6), put(count(4), 1, 7), put(quote("5"), 1, 8), put(count(6), 1, 11), put(end, 1, 12))
	wantTokens(t, "{}{};;", put(open, 1, 1), put(shut, 1, 2), put(open, 1, 3), put(shut, 1, 4), put(stop, 1, 5), put(stop, 1, 6), put(end, 1, 7))
	all := prints()
	// Of two tokens beside one another each is itself, if one of them is no word.
	for a, first := range all {
		for b, second := range all {
			if a == end || b == end || isWord(a) && isWord(b) {
				continue
			}
			n := utf8.RuneCountInString(first)
			wantTokens(t, first+second, put(a, 1, 1), put(b, 1, n+1), put(end, 1, n+1+utf8.RuneCountInString(second)))
			if isWord(a) || isWord(b) {
				wantNoValue(t, first+second, api.Word)
			}
		}
	}
	// Two words with no gap between are one.
	wantValue(t, "a"+"b", name("ab"))
	wantValue(t, "1"+"2", count(12))
	wantValue(t, "1"+"1.5", factor(11500))
	wantValue(t, "1"+"5%", share(150000))
	wantValue(t, "1h"+"5m", ticks(3900))
	wantNoWord(t, "1"+"a", api.Word)
	wantNoWord(t, "5%"+"5%", api.Word)
	wantNoWord(t, "5%"+"1", api.Word)
	wantNoWord(t, "5%"+"1.5", api.Word)
	wantNoWord(t, "1.5"+"h", api.Word)
	wantNoWord(t, "a"+"%", api.Word)
	wantNoWord(t, "a"+".b", api.Word)
}

// isWord: is the token written as a word?
func isWord(t api.Tok) bool {
	return t.Kind == api.TokName || t.Kind >= api.TokCount && t.Kind <= api.TokSpan
}

// P13.1, P13.2: names.
func TestNames(t *testing.T) {
	for _, s := range []string{
		"a", "z", "A", "Z", "a1", "a_b", "a-b", "a--b", "a__b", "a-_-0", "a9", "s", "h1", "w0s", "e5", "é", "Жук", "api-latency_99", "ωω", "aé0ж",
		strings.Repeat("a", 24), strings.Repeat("é", 24), "a" + strings.Repeat("-", 22) + "b", "a" + strings.Repeat("_", 22) + "0", "ж" + strings.Repeat("9", 23),
	} {
		wantValue(t, s, name(s))
	}
	for _, s := range []string{
		"a-", "a_", "a1-", "é_", "a.", "a.b", "a%", "a%b", "a.5%", "é%", "a-.b", "s.", "h%", "_", "-", ".", "%", "_a", "-a", ".a", "%a", "-1", "_1", ".5", "%5", "-1.5", "-5%", "-1h", ".5%", "--", "..", "%%", "_-.%", "-_a",
		strings.Repeat("a", 25), strings.Repeat("é", 25), "a" + strings.Repeat("-", 23) + "b", strings.Repeat("a", 24) + "-", strings.Repeat("a", 24) + "_", strings.Repeat("a", 23) + "-", strings.Repeat("ж", 23) + "_", strings.Repeat("a", 24) + ".", strings.Repeat("a", 24) + "%", strings.Repeat("a", 30000),
	} {
		wantNoWord(t, s, api.Word)
	}
	// The ends of each range of letters, and what is just outside.
	for _, r := range []rune{'a', 'z', 'A', 'Z', 0xC0, 0xD6, 0xD8, 0xF6, 0xF8, 0x24F, 0x370, 0x3FF, 0x400, 0x4FF} {
		wantValue(t, string(r), name(string(r)))
		wantValue(t, "a"+string(r), name("a"+string(r)))
		wantNoWord(t, "1"+string(r), api.Word)
		wantTokens(t, ";"+string(r)+"-"+string(r)+"{", put(stop, 1, 1), put(name(string(r)+"-"+string(r)), 1, 2), put(open, 1, 5), put(end, 1, 6))
	}
	for _, r := range []rune{'a' - 1, 'A' - 1, 'Z' + 1, 0xBF, 0xD7, 0xF7, 0x250, 0x36F, 0x500} {
		wantNoWord(t, string(r), api.Word)
		wantFault(t, "a"+string(r)+"a", fault(api.Word, 1, 2))
		wantNoValue(t, "a"+string(r)+"a", api.Word)
	}
}

// P13.1, P13.2: counts.
func TestCounts(t *testing.T) {
	for s, n := range map[string]uint64{"0": 0, "1": 1, "9": 9, "10": 10, "100": 100, "1000000": 1000000, "4294967296": 1 << 32, "9223372036854775807": math.MaxInt64, "9223372036854775808": 1 << 63, "18446744073709551614": math.MaxUint64 - 1, "18446744073709551615": math.MaxUint64} {
		wantValue(t, s, count(n))
		wantNoWord(t, "0"+s, api.Word)
		wantNoWord(t, "000"+s, api.Word)
	}
	for _, s := range []string{
		"18446744073709551616", "18446744073709551617", "20000000000000000000", "36893488147419103232", "99999999999999999999", "340282366920938463463374607431768211455", "340282366920938463463374607431768211456", "340282366920938463463374607431768211457", "1" + strings.Repeat("0", 100), strings.Repeat("9", 10000),
	} {
		wantNoWord(t, s, api.Range)
		wantNoWord(t, "0"+s, api.Word)
		wantNoWord(t, s+"x", api.Word)
		wantNoWord(t, s+"-", api.Word)
		wantNoWord(t, s+"_0", api.Word)
	}
	for _, s := range []string{"00", "01", "007", "0000000000000000000000000000000000000000000000", "1-", "1_000", "1-2", "0x1", "1e5", "1é", "12a", "5x", "1_", "0_", "1-1"} {
		wantNoWord(t, s, api.Word)
	}
}

// P13.1, P13.2: shares.
func TestShares(t *testing.T) {
	for s, n := range map[string]uint64{"0%": 0, "1%": 10000, "10%": 100000, "99%": 990000, "100%": 1000000, "0.1%": 1000, "0.01%": 100, "0.001%": 10, "0.0001%": 1, "0.9999%": 9999, "50.5%": 505000, "1.2345%": 12345, "99.9999%": 999999, "99.9%": 999000, "12.34%": 123400} {
		wantValue(t, s, share(n))
	}
	for _, s := range []string{"101%", "200%", "100.1%", "100.0001%", "1000%", "18446744073709551616%", "340282366920938463463374607431768211456%", strings.Repeat("9", 1000) + "%", strings.Repeat("9", 1000) + ".9999%", "4294967296%", "42949672.96%"} {
		wantNoWord(t, s, api.Range)
		wantNoWord(t, "0"+s, api.Word)
	}
	for _, s := range []string{"%", "00%", "01%", "1.0%", "1.10%", "1.%", "0.0%", "1.00001%", "1.2.3%", "5%%", "1h%", "1s%", "1a%", "1_0%", "1-%", "100.0%", "200.0%", "200.%", "0200%", "1..5%", "5%5", "5%5%", "5%s", "5%.5", "1%-", "1%_", "100.00001%"} {
		wantNoWord(t, s, api.Word)
	}
}

// P13.1, P13.2: factors.
func TestFactors(t *testing.T) {
	for s, n := range map[string]uint64{
		"0.0": 0, "0.00": 0, "0.000": 0, "0.1": 100, "0.10": 100, "0.100": 100, "0.01": 10, "0.010": 10, "0.001": 1, "0.05": 50, "0.050": 50, "0.123": 123, "0.999": 999,
		"1.0": 1000, "1.00": 1000, "1.000": 1000, "1.5": 1500, "1.05": 1050, "1.005": 1005, "1.050": 1050, "3.0": 3000, "9.9": 9900, "10.0": 10000, "14.4": 14400, "14.40": 14400, "14.400": 14400, "1000.0": 1000000, "1000.001": 1000001,
		"18446744073709551.615": math.MaxUint64, "18446744073709551.614": math.MaxUint64 - 1, "18446744073709551.61": math.MaxUint64 - 5, "18446744073709551.6": math.MaxUint64 - 15, "18446744073709551.0": math.MaxUint64 - 615, "18446744073709550.999": math.MaxUint64 - 616, "9223372036854775.807": math.MaxInt64,
	} {
		wantValue(t, s, factor(n))
		wantNoWord(t, "0"+s, api.Word)
		wantNoWord(t, "00"+s, api.Word)
	}
	for _, s := range []string{
		"18446744073709551.616", "18446744073709551.617", "18446744073709551.62", "18446744073709551.7", "18446744073709551.620", "18446744073709551.999", "18446744073709552.0", "18446744073709552.000", "20000000000000000.0", "18446744073709551615.0", "18446744073709551615.999", "18446744073709551616.0", "18446744073709551616.5", "36893488147419103232.0", "340282366920938463463374607431768211.0", "340282366920938463463374607431768212.0", "340282366920938463463374607431768211455.999", "340282366920938463463374607431768211456.0", "340282366920938463463374607431768211457.123", strings.Repeat("9", 1000) + ".9", "1" + strings.Repeat("0", 10000) + ".000",
	} {
		wantNoWord(t, s, api.Range)
		wantNoWord(t, "0"+s, api.Word)
		wantNoWord(t, s+".", api.Word)
		wantNoWord(t, s+"0000", api.Word)
		wantNoWord(t, s+"s", api.Word)
	}
	for _, s := range []string{
		"1.", "0.", "1.2345", "0.0000", "1.0000", "1.2340", "00.5", "01.5", "00.0", "1..5", "1.2.3", "1.5.", "..", "1.2.", "1.h", "1.5h", "1h.5", "1h5.0", "1.5s", "1.-5", "1.5-", "1._5", "1_0.5", "1-0.5", "1%.5", "1.5%5", "1.a", "1a.5", "1.é", "18446744073709551616.", "18446744073709551616.0000", "99999999999999999999999999999999999999999999.12345", "1.5_", "5.%5",
	} {
		wantNoWord(t, s, api.Word)
	}
}

// P13.1, P13.2: spans.
func TestSpans(t *testing.T) {
	for s, n := range map[string]uint64{
		"0s": 0, "0w": 0, "0w0d0h0m0s": 0, "1s": 1, "59s": 59, "60s": 60, "1m": 60, "90m": 5400, "1h30m": 5400, "1h": 3600, "1d": 86400, "1w": 604800, "1w1d1h1m1s": 694861, "1w1s": 604801, "007s": 7, "01h": 3600, "00000000000000000000000000000000000000000009m": 540, "100d": 8640000,
		"253402300799s": api.MaxTick, "418985w1d23h59m59s": api.MaxTick, "418985w": 253402128000, "4223371679m59s": api.MaxTick, "0253402300799s": api.MaxTick,
	} {
		wantValue(t, s, ticks(n))
	}
	for _, s := range []string{
		"253402300800s", "418985w1d23h59m60s", "418986w", "4223371680m", "70389528h", "2932897d", "9223372036854775807s", "9223372036854775808s", "18446744073709551616s", "18446744073709551617s", strings.Repeat("9", 1000) + "w", "1w253402300800s", "340282366920938463463374607431768211456s", "15250284452472w", "30500568904943w", "30500568904944w",
	} {
		wantNoWord(t, s, api.Range)
		wantNoWord(t, "00"+s, api.Range)
		wantNoWord(t, s+"1", api.Word)
		wantNoWord(t, s+"s", api.Word)
		wantNoWord(t, s+"%", api.Word)
	}
	for _, s := range []string{"1x", "5x", "1H", "1S", "1h1h", "1m1h", "1s1m", "1h30", "1hm", "1h-", "1h_5m", "1-h", "1_s", "1y", "1ms", "1hs", "1é", "1s1", "1w2", "1dd", "0x10", "1h1d", "1s-", "1s_"} {
		wantNoWord(t, s, api.Word)
	}
}

// P13.1: quoted texts.
func TestTexts(t *testing.T) {
	for s, want := range map[string]string{
		`""`: "", `" "`: " ", `"a"`: "a", `"a b"`: "a b", `"é"`: "é", `"中😀"`: "中😀", `"\""`: `"`, `"\\"`: `\`, `"\n"`: "\n", `"\t"`: "\t", `"\\\""`: `\"`, `"\\\\"`: `\\`, `"\"\""`: `""`, `"\\n"`: `\n`, `"\\\n"`: "\\\n",
		`"\u{0}"`: "\x00", `"\u{22}"`: `"`, `"\u{5c}"`: `\`, `"\u{a}"`: "\n", `"\u{d}"`: "\r", `"\u{7f}"`: "\x7f", `"\u{e9}"`: "é", `"\u{0000e9}"`: "é", `"\u{1f600}"`: "😀", `"\u{10ffff}"`: "\U0010ffff", `"\u{fffd}"`: "\ufffd", `"\u{d7ff}\u{e000}"`: "\ud7ff\ue000",
		`"{"`: "{", `";"`: ";", `"#"`: "#", `"#\"#"`: `#"#`, `"1h"`: "1h", `"{};"`: "{};", `"@"`: "@", "\"\ufffd\"": "\ufffd", "\"\u0080\u00a0\"": "\u0080\u00a0", `"200%"`: "200%",
		`"` + strings.Repeat("a", 120) + `"`: strings.Repeat("a", 120), `"` + strings.Repeat("é", 120) + `"`: strings.Repeat("é", 120), `"` + strings.Repeat(`\"`, 120) + `"`: strings.Repeat(`"`, 120), `"` + strings.Repeat(`\u{10ffff}`, 120) + `"`: strings.Repeat("\U0010ffff", 120),
	} {
		wantTokenOf(t, s, quote(want))
		// One behind the other, each ends at its own mark.
		n := utf8.RuneCountInString(s)
		wantTokens(t, s+s+"\n"+s, put(quote(want), 1, 1), put(quote(want), 1, n+1), put(quote(want), 2, 1), put(end, 2, n+1))
	}
	// That the end or a line feed comes ahead of, also behind a backslash; what stands behind plays no part.
	for _, s := range []string{`"`, `"a`, `"\`, `"\"`, `"a\"`, `"a\\\"`, `"\\`, `"\u{`, `"\u{61}`, `"é`, `" `, `"#`, `"{;}`, `"` + "\t", "\"\xff", "\"\\\xff", `"` + strings.Repeat("a", 121), `"` + strings.Repeat("a", 121) + `\`, `"` + strings.Repeat("a", 30000)} {
		for _, behind := range []string{"", "\n", "\n\"", "\n\" \"a\"", "\n@", "\n#\""} {
			wantFault(t, s+behind, fault(api.Word, 1, 1))
			wantFault(t, "a\n é "+s+behind, fault(api.Word, 2, 4))
		}
		// A mark behind may end it, but not at the line feed's other side.
		wantFault(t, s+"\na\"", fault(api.Word, 1, 1))
		wantNoValue(t, s, api.Word)
	}
	// That isn't a quoted one.
	for _, s := range []string{`"\x"`, `"\a"`, `"\N"`, `"\ "`, `"\'"`, `"\0"`, `"\u"`, `"\u61"`, `"\u{}"`, `"\u{g}"`, `"\u{E9}"`, `"\u{0000061}"`, `"\u{61"`, `"\u{110000}"`, `"\u{d800}"`, `"\u{dfff}"`, `"\u{ffffff}"`, `"\u{ 61}"`, `"\U{61}"`, "\"\t\"", "\"\r\"", "\"\x00\"", "\"\x1f\"", "\"\x7f\"", "\"a\rb\"", "\"\\\t\"", "\"\\\x00\"", "\"\\é\"",
		"\"\xff\"", "\"a\xff\"", "\"\xffa\"", "\"\\\xff\"", "\"é\xc3\"", "\"\xed\xa0\x80\"", "\"\xc0\xa2\"", "\"\xc0\x8a\"", "\"\xf0\x9f\x98\"", "\"\\n\xe2\x82\"", "\"" + strings.Repeat("a", 121) + "\xff\"", "\"" + strings.Repeat("a", 121) + "\\x\"", "\"\xff" + strings.Repeat("a", 120) + "\"", "\"" + strings.Repeat("a", 121) + "\t\""} {
		wantNoToken(t, s, api.Word)
		wantFault(t, s+"\xff", fault(api.Word, 1, 1))
		wantFault(t, `"" `+s, fault(api.Word, 1, 4))
		wantNoValue(t, s, api.Word)
	}
	for _, s := range []string{strings.Repeat("a", 121), strings.Repeat("é", 121), strings.Repeat(`\n`, 121), strings.Repeat(`\u{61}`, 121), strings.Repeat(`\"`, 121), strings.Repeat("a", 120) + "#", strings.Repeat("a", 30000)} {
		wantNoToken(t, `"`+s+`"`, api.Long)
		wantFault(t, `"`+s+`"`+`"`, fault(api.Long, 1, 1))
		wantFault(t, "é "+`"`+s+`"`+"\n@", fault(api.Long, 1, 3))
	}
}

// P13.1: of several faults the first one is told.
func TestFirstFault(t *testing.T) {
	wrong := map[string]api.Code{"@": api.Word, "5x": api.Word, "200%": api.Range, "18446744073709551616": api.Range, `"\x"`: api.Word, `"` + strings.Repeat("a", 121) + `"`: api.Long, "\xff": api.Word, "a-": api.Word, "253402300800s": api.Range, "18446744073709552.0": api.Range, "01": api.Word, `"` + "\t" + `"`: api.Word}
	for a, c := range wrong {
		for b := range wrong {
			wantFault(t, a+" "+b, fault(c, 1, 1))
			wantFault(t, "x{"+a+"\n"+b, fault(c, 1, 3))
			wantFault(t, "\"é\"\n\t"+a+";"+b, fault(c, 2, 2))
			wantFault(t, "#"+b+"\n"+a+"\n#"+b, fault(c, 2, 1))
		}
		// An open text swallows what stands behind it in its line, and is the fault.
		wantFault(t, `"`+strings.Trim(a, `"`), fault(api.Word, 1, 1))
		wantFault(t, a+"\"\n", fault(c, 1, 1))
		wantFault(t, a+"\n\"", fault(c, 1, 1))
	}
}

// P13.2: texts that aren't one word.
func TestValueOfNoWord(t *testing.T) {
	words := []string{"a", "é", "12", "0", "14.4", "50%", "1h30m", "200%", "18446744073709551616", "18446744073709552.0", "253402300800s"}
	for _, w := range words {
		for _, other := range []string{" ", "\t", "\n", "  ", "#", "#\n", " #", "# a\n", "\n\n", ";", "{", "}", `"`, `""`, `"a"`, "@", "\xff", "\x00", "\r", "中", ",", "\\"} {
			wantNoValue(t, w+other, api.Word)
			wantNoValue(t, other+w, api.Word)
			wantNoValue(t, other+w+other, api.Word)
			for _, v := range words {
				wantNoValue(t, w+other+v, api.Word)
			}
		}
	}
	for _, s := range []string{
		"", " ", "\t", "\n", "#", "# a\n", "#\n#", "{", "}", ";", "{}", ";;", "{;}", "a;", "\xff", "\x00", "@",
		// A quoted text is no word, for it has other runes than those of words; nor is one with something around it.
		`""`, `"a"`, `"1h"`, `"a"b`, `a"b"`, `"a" `, ` "a"`, `"a""b"`, `"a"#`, `"a";`, `"a`, `a"`, `"`, `"\n"`, `"` + strings.Repeat("a", 120) + `"`, `"` + strings.Repeat("a", 121) + `"`,
	} {
		wantNoValue(t, s, api.Word)
	}
	// Of great length: a word may be longer than a source.
	const many = 1 << 20
	wantNoValue(t, strings.Repeat("a", many), api.Word)
	wantNoValue(t, strings.Repeat("\xff", many), api.Word)
	wantNoValue(t, strings.Repeat(" ", many), api.Word)
	wantNoValue(t, strings.Repeat("0", many), api.Word)
	wantNoValue(t, strings.Repeat("9", many), api.Range)
	wantNoValue(t, strings.Repeat("9", many)+"%", api.Range)
	wantNoValue(t, strings.Repeat("9", many)+".5", api.Range)
	wantNoValue(t, strings.Repeat("9", many)+"s", api.Range)
	wantNoValue(t, strings.Repeat("9", many)+" ", api.Word)
	wantNoValue(t, strings.Repeat("9", many)+"é", api.Word)
	wantNoValue(t, "1."+strings.Repeat("0", many), api.Word)
	wantNoValue(t, strings.Repeat("1h", many), api.Word)
	wantNoValue(t, strings.Repeat("1.", many), api.Word)
	wantNoValue(t, strings.Repeat("%", many), api.Word)
	if x, c := scan.Value(strings.Repeat("0", many) + "7s"); x != ticks(7) || c != api.Fine {
		t.Error(x, c)
	}
	r := rand.New(rand.NewSource(131))
	for range 20000 {
		b := make([]byte, r.Intn(10))
		r.Read(b)
		compare(t, string(b))
	}
}

// P13.3: what is right, and how it is written.
func TestRightAndPrint(t *testing.T) {
	for x, s := range prints() {
		for _, spot := range []api.Spot{{}, {Line: 1, Col: 1}, {Line: -1, Col: -7}, {Line: math.MaxInt, Col: math.MinInt}} {
			x.At = spot
			wantRight(t, x, s)
		}
	}
	for _, n := range []uint64{0, 1, 9, 10, 99, 1000, 1000000, 1000001, api.MaxTick, api.MaxTick + 1, 1 << 32, 1<<32 + 7, math.MaxInt64, 1 << 63, 1<<63 + 1, math.MaxUint64 - 1, math.MaxUint64} {
		wantRight(t, count(n), strconv.FormatUint(n, 10))
		whole, thousandths := n/1000, fmt.Sprintf("%03d", n%1000)
		for len(thousandths) > 1 && strings.HasSuffix(thousandths, "0") {
			thousandths = thousandths[:len(thousandths)-1]
		}
		wantRight(t, factor(n), fmt.Sprintf("%d.%s", whole, thousandths))
	}
	for _, n := range []uint64{1000001, 1000002, 2000000, 1 << 32, 1<<32 + 1, 1<<32 + 1000000, 1 << 63, math.MaxUint64} {
		wantNotRight(t, share(n))
	}
	for _, n := range []uint64{api.MaxTick + 1, api.MaxTick + 2, math.MaxInt64, 1 << 63, 1<<63 + 1, math.MaxUint64, math.MaxUint64 - 1} {
		wantNotRight(t, ticks(n))
	}
	for _, s := range []string{"", " ", "1", "_", "-", "_a", "a-", "a_", "a b", "a.b", "a%", "a\n", " a", "a ", "1h", "é\xff", "\xff", "中", "a;", "{", `"a"`, "\x00", strings.Repeat("a", 25), strings.Repeat("é", 25), strings.Repeat("a", 100000)} {
		wantNotRight(t, name(s))
	}
	for _, s := range []string{"\xff", "a\xff", "\xffa", "\xe2\x82", "\xed\xa0\x80", "\xc0\x80", strings.Repeat("a", 121), strings.Repeat("é", 121), strings.Repeat("\n", 121), strings.Repeat("a", 120) + "\xff", strings.Repeat("\xff", 121), strings.Repeat("a", 100000)} {
		wantNotRight(t, quote(s))
	}
}

// P13.3: each kind with a Text, or an N, that it may not have, and kinds that are none.
func TestNotRight(t *testing.T) {
	for _, kind := range kinds {
		named := kind == api.TokName || kind == api.TokText
		numbered := kind >= api.TokCount && kind <= api.TokSpan
		for _, s := range []string{"a", " ", "7", "{", "}", ";", "\xff", "1h", "5%", "1.0"} {
			for _, n := range []uint64{1, 7, 1000, math.MaxUint64} {
				wantNotRight(t, api.Tok{Kind: kind, Text: s, N: n, At: at(int(n%9), 2)})
			}
			if !named {
				wantNotRight(t, api.Tok{Kind: kind, Text: s})
				wantNotRight(t, api.Tok{Kind: kind, Text: s, At: at(3, 4)})
			}
		}
		for _, n := range []uint64{1, 7, 1000000, 1 << 32, 1 << 63, math.MaxUint64} {
			if !numbered {
				wantNotRight(t, api.Tok{Kind: kind, N: n})
				wantNotRight(t, api.Tok{Kind: kind, N: n, At: at(1, 1)})
			}
		}
	}
	for _, kind := range []int{-1, -2, -7, 10, 11, 12, 99, 256, 257, 1 << 16, 1<<16 + 1, 1 << 32, 1<<32 + 1, -1 << 32, math.MaxInt, math.MaxInt - 1, math.MinInt, math.MinInt + 1} {
		for _, x := range []api.Tok{{}, {Text: "a"}, {N: 1}, {Text: "a", N: 1}, {At: at(1, 1)}} {
			x.Kind = kind
			wantNotRight(t, x)
		}
	}
}

func wantRight(t *testing.T, x api.Tok, s string) {
	t.Helper()
	if p := scan.Print(x); p != s || !scan.Right(x) {
		t.Errorf("%s: %s, right %v, not %s", shownAll([]api.Tok{x}), shown(p), scan.Right(x), shown(s))
	}
}

func wantNotRight(t *testing.T, x api.Tok) {
	t.Helper()
	if p := scan.Print(x); p != "?" || scan.Right(x) {
		t.Errorf("%s: %s, right %v", shownAll([]api.Tok{x}), shown(p), scan.Right(x))
	}
}

// randomToken is right, of any kind but TokEnd.
func randomToken(r *rand.Rand) api.Tok {
	n := r.Uint64() >> r.Intn(64)
	switch kind := 1 + r.Intn(9); kind {
	case api.TokName:
		letters, more := []rune("azAZéÿɏͰϿЀӿж"), []rune("azé09_-ж")
		l := []rune{letters[r.Intn(len(letters))]}
		for range r.Intn(23) {
			l = append(l, more[r.Intn(len(more))])
		}
		if last := l[len(l)-1]; last == '_' || last == '-' {
			l[len(l)-1] = '7'
		}
		return name(string(l))
	case api.TokText:
		runes := []rune("a\"\\\n\t\r\x00\x1f\x7f é中😀#{};\ufffd\U0010ffff")
		var l []rune
		for range r.Intn(121) {
			l = append(l, runes[r.Intn(len(runes))])
		}
		return quote(string(l))
	case api.TokShare:
		return share(uint64(r.Intn(1000001)))
	case api.TokSpan:
		return ticks(n % (api.MaxTick + 1))
	case api.TokCount, api.TokFactor:
		return api.Tok{Kind: kind, N: n}
	default:
		return api.Tok{Kind: kind}
	}
}

// P13.4: what is printed is a token's source.
func TestPrintedIsRead(t *testing.T) {
	for x, s := range prints() {
		n := utf8.RuneCountInString(s)
		switch {
		case x == end:
			wantTokens(t, s, put(end, 1, 1))
		case isWord(x):
			wantValue(t, s, x)
		default:
			wantTokens(t, s, put(x, 1, 1), put(end, 1, n+1))
		}
	}
	for p := range uint64(api.Million + 1) {
		if x, c := scan.Value(scan.Print(share(p))); x != share(p) || c != api.Fine {
			t.Fatal(p, x, c)
		}
	}
	for n := range uint64(100000) {
		for _, w := range []api.Tok{count(n), factor(n), ticks(n), count(math.MaxUint64 - n), factor(math.MaxUint64 - n), ticks(api.MaxTick - n)} {
			if x, c := scan.Value(scan.Print(w)); x != w || c != api.Fine {
				t.Fatal(w, x, c)
			}
		}
	}
}

// P13.4: printed with gaps between, tokens are read as they are, each in its place.
func TestPrintedWithGaps(t *testing.T) {
	r := rand.New(rand.NewSource(132))
	for range 3000 {
		var want []api.Tok
		var b strings.Builder
		line, col := 1, 1
		for range r.Intn(12) {
			for range 1 + r.Intn(3) {
				g := gapList[r.Intn(len(gapList))]
				b.WriteString(g.s)
				if g.lines > 0 {
					line, col = line+g.lines, 1
				}
				col += g.runs
			}
			x := randomToken(r)
			s := scan.Print(x)
			want = append(want, put(x, line, col))
			b.WriteString(s)
			col += utf8.RuneCountInString(s)
		}
		wantTokens(t, b.String(), append(want, put(end, line, col))...)
	}
}

// What is answered is the caller's, and the same each time.
func TestAnswersAreTheCallers(t *testing.T) {
	const s = "a 1 { \"b\" ; }"
	first, _ := scan.Tokens(s)
	kept := slices.Clone(first)
	second, _ := scan.Tokens(s)
	for i := range first {
		first[i] = api.Tok{Kind: 99, Text: "gone"}
	}
	_ = append(first[:0], share(1), share(2), share(3))
	third, _ := scan.Tokens(s)
	if !slices.Equal(second, kept) || !slices.Equal(third, kept) {
		t.Error(shownAll(second), shownAll(third))
	}
}

// answer is what Tokens has to tell.
type answer struct {
	tokens []api.Tok
	fault  api.Fault
}

const letterClass = `a-zA-Z\x{C0}-\x{D6}\x{D8}-\x{F6}\x{F8}-\x{24F}\x{370}-\x{3FF}\x{400}-\x{4FF}`

// The chapter's words, as patterns: each is looked for at the front of what is left.
var (
	gapPattern    = regexp.MustCompile(`^(?:[ \t\n]|#[^\n]*)+`)
	wordPattern   = regexp.MustCompile(`^[` + letterClass + `0-9_.%-]+`)
	textPattern   = regexp.MustCompile(`^"(?:[^"\\\n]|\\[^\n])*"`)
	namePattern   = regexp.MustCompile(`^[` + letterClass + `](?:[` + letterClass + `0-9_-]{0,22}[` + letterClass + `0-9])?$`)
	countPattern  = regexp.MustCompile(`^(?:0|[1-9][0-9]*)$`)
	sharePattern  = regexp.MustCompile(`^(0|[1-9][0-9]*)(?:\.([0-9]{0,3}[1-9]))?%$`)
	factorPattern = regexp.MustCompile(`^(0|[1-9][0-9]*)\.([0-9]{1,3})$`)
	spanPattern   = regexp.MustCompile(`^(?:([0-9]+)w)?(?:([0-9]+)d)?(?:([0-9]+)h)?(?:([0-9]+)m)?(?:([0-9]+)s)?$`)
	quotedPattern = regexp.MustCompile(`^"(?:[^"\\\x00-\x1f\x7f]|\\["\\nt]|\\u\{[0-9a-f]{1,6}\})*"$`)
	escapePattern = regexp.MustCompile(`\\(?:["\\nt]|u\{[0-9a-f]+\})`)
)

// modelTokens is what the chapter says, by patterns, and places by what stands ahead.
func modelTokens(s string) answer {
	spot := func(i int) api.Spot {
		line := strings.LastIndexByte(s[:i], '\n') + 1
		return at(1+strings.Count(s[:i], "\n"), 1+len([]rune(s[line:i])))
	}
	if len(s) > 40000 {
		return answer{nil, fault(api.Long, 1, 1)}
	}
	var l []api.Tok
	for i := 0; i < len(s); {
		rest := s[i:]
		if g := gapPattern.FindString(rest); g != "" {
			i += len(g)
			continue
		}
		x, n, c := modelToken(rest)
		if c != api.Fine {
			return answer{nil, api.Fault{Code: c, At: spot(i)}}
		}
		x.At = spot(i)
		l = append(l, x)
		i += n
	}
	return answer{append(l, api.Tok{Kind: api.TokEnd, At: spot(len(s))}), api.Fault{}}
}

// modelToken at the front, and how many bytes it has.
func modelToken(rest string) (api.Tok, int, api.Code) {
	if k := strings.IndexByte("{};", rest[0]); k >= 0 {
		return api.Tok{Kind: api.TokOpen + k}, 1, api.Fine
	}
	if q := textPattern.FindString(rest); q != "" {
		s, c := modelText(q)
		return quote(s), len(q), c
	}
	w := wordPattern.FindString(rest)
	x, c := modelValue(w)
	return x, len(w), c
}

func modelText(q string) (string, api.Code) {
	if !quotedPattern.MatchString(q) || !utf8.ValidString(q) {
		return "", api.Word
	}
	right := true
	s := escapePattern.ReplaceAllStringFunc(q[1:len(q)-1], func(e string) string {
		switch e[1] {
		case 'n':
			return "\n"
		case 't':
			return "\t"
		case 'u':
			n, _ := strconv.ParseInt(e[3:len(e)-1], 16, 64)
			right = right && utf8.ValidRune(rune(n))
			return string(rune(n))
		}
		return e[1:]
	})
	switch {
	case !right:
		return "", api.Word
	case utf8.RuneCountInString(s) > 120:
		return "", api.Long
	}
	return s, api.Fine
}

// modelValue is what the chapter says of a word, with numbers of any size.
func modelValue(w string) (api.Tok, api.Code) {
	if w != "" && wordPattern.FindString(w) != w {
		return api.Tok{}, api.Word
	}
	if namePattern.MatchString(w) {
		return name(w), api.Fine
	}
	if m := sharePattern.FindStringSubmatch(w); m != nil {
		return modelNumber(api.TokShare, whole(m[1]+(m[2] + "0000")[:4]), 1000000)
	}
	if m := factorPattern.FindStringSubmatch(w); m != nil {
		return modelNumber(api.TokFactor, whole(m[1]+(m[2] + "000")[:3]), math.MaxUint64)
	}
	if countPattern.MatchString(w) {
		return modelNumber(api.TokCount, whole(w), math.MaxUint64)
	}
	if m := spanPattern.FindStringSubmatch(w); m != nil && w != "" {
		sum := big.NewInt(0)
		for i, unit := range []int64{604800, 86400, 3600, 60, 1} {
			sum.Add(sum, new(big.Int).Mul(whole("0"+m[i+1]), big.NewInt(unit)))
		}
		return modelNumber(api.TokSpan, sum, api.MaxTick)
	}
	return api.Tok{}, api.Word
}

func whole(digits string) *big.Int {
	n, _ := new(big.Int).SetString(digits, 10)
	return n
}

func modelNumber(kind int, n *big.Int, most uint64) (api.Tok, api.Code) {
	if n.Cmp(new(big.Int).SetUint64(most)) > 0 {
		return api.Tok{}, api.Range
	}
	return api.Tok{Kind: kind, N: n.Uint64()}, api.Fine
}

// compare with the model, as a source and as a word.
func compare(t *testing.T, s string) {
	t.Helper()
	want := modelTokens(s)
	if want.fault != (api.Fault{}) {
		wantFault(t, s, want.fault)
	} else {
		wantTokens(t, s, want.tokens...)
	}
	wx, wc := modelValue(s)
	if wc != api.Fine {
		wantNoValue(t, s, wc)
	} else if x, c := scan.Value(s); x != wx || c != api.Fine {
		t.Errorf("Value(%s): %s, %d, not %s", shown(s), shownAll([]api.Tok{x}), c, shownAll([]api.Tok{wx}))
	}
}

// All short texts of the runes at which something turns.
func TestShortTexts(t *testing.T) {
	runes := []string{"a", "s", "h", "0", "1", "9", "_", "-", ".", "%", " ", "\n", "#", "\"", "\\", "{", ";", "@", "é", "\xff"}
	short := []string{""}
	for range 4 {
		var next []string
		for _, s := range short {
			compare(t, s)
			for _, r := range runes {
				next = append(next, s+r)
			}
		}
		short = next
	}
	if testing.Short() {
		return
	}
	for _, s := range short {
		compare(t, s)
	}
}

// All words of up to six runes out of those that numbers have.
func TestShortWords(t *testing.T) {
	runes := []string{"0", "1", ".", "%", "s", "m", "-"}
	words := []string{""}
	for range 6 {
		var next []string
		for _, w := range words {
			for _, r := range runes {
				next = append(next, w+r)
			}
		}
		for _, w := range next {
			x, c := scan.Value(w)
			if wx, wc := modelValue(w); x != wx || c != wc {
				t.Fatalf("Value(%s): %v, %d, not %v, %d", w, x, c, wx, wc)
			}
		}
		words = next
	}
}

// Rows of any pieces, right and wrong.
func TestAnyPieces(t *testing.T) {
	pieces := []string{
		" ", "\t", "\n", "\n\n", "#", "# é\xff\n", "{", "}", ";", "a", "rule", "é-ж_9", "a-", "_", "12", "0", "00", "18446744073709551615", "18446744073709551616", "14.4", "0.05", "1.2345", "18446744073709551.616", ".", "%", "99.9%", "100%", "100.1%", "1.0%", "1h30m", "90m", "30m1h", "007s", "253402300800s",
		`"`, `""`, `"a b"`, `"\""`, `\`, `"\x"`, `"\u{e9}"`, `"\u{d800}"`, "\"é😀\"", "\"\xff\"", `"` + strings.Repeat("a", 120) + `"`, `"` + strings.Repeat("a", 121) + `"`, "@", "中", "\x00", "\r", "\xff", "\xe2\x82", strings.Repeat("a", 24), strings.Repeat("a", 25),
	}
	safe := []string{" ", "\t", "\n", "# é\xff\n", "{", "}", ";", "a", "é-ж_9", "12", "14.4", "99.9%", "1h30m", `""`, `"a \"b"`, "\"é😀\"", " ", "\n"}
	r := rand.New(rand.NewSource(133))
	for i := range 60000 {
		l := pieces
		if i%2 == 0 {
			l = safe
		}
		var b strings.Builder
		for range r.Intn(14) {
			b.WriteString(l[r.Intn(len(l))])
		}
		if r.Intn(4) == 0 {
			b.WriteString(pieces[r.Intn(len(pieces))])
		}
		compare(t, b.String())
	}
}

// Sources about as long as can be, of any bytes.
func TestLongSources(t *testing.T) {
	r := rand.New(rand.NewSource(134))
	for range 40 {
		b := make([]byte, 39990+r.Intn(20))
		r.Read(b)
		compare(t, string(b))
		for i := range b {
			b[i] = " \t\nab1#;{}"[int(b[i])%10]
		}
		compare(t, string(b))
	}
}
