package layout_test

import (
	"fmt"
	"math"
	"math/rand"
	"reflect"
	"regexp"
	"slices"
	"strconv"
	"strings"
	"testing"
	"unicode/utf8"

	"firebell/api"
	"firebell/layout"
	"firebell/scan"
	"firebell/tree"
)

func name(s string) api.Tok { return api.Tok{Kind: api.TokName, Text: s} }

func quoted(s string) api.Tok { return api.Tok{Kind: api.TokText, Text: s} }

func number(kind int, n uint64) api.Tok { return api.Tok{Kind: kind, N: n} }

func count(n uint64) api.Tok { return number(api.TokCount, n) }

// item that is no block.
func item(name string, words ...api.Tok) api.Item { return api.Item{Name: name, Words: words} }

// block of an item, with kids.
func block(head api.Item, kids ...api.Item) api.Item {
	head.Block, head.Kids = true, kids
	return head
}

func list(l ...api.Item) []api.Item { return l }

// words: one of each kind that may stand behind an item's name, in the kinds' order, and how they are printed.
func words() ([]api.Tok, []string) {
	return []api.Tok{name("b"), quoted("é"), count(7), number(api.TokFactor, 14400), number(api.TokShare, 999000), number(api.TokSpan, 5400)},
		[]string{"b", `"é"`, "7", "14.4", "99.9%", "1h30m"}
}

// within blocks of their own, as many as are asked for.
func within(blocks int, l ...api.Item) []api.Item {
	for range blocks {
		l = list(block(item("w"), l...))
	}
	return l
}

// many items, none of them a block.
func many(n int) []api.Item {
	l := make([]api.Item, n)
	for i := range l {
		l[i].Name = "a"
	}
	return l
}

// chain is one item within the other, all of them blocks, the deepest too.
func chain(depth int) []api.Item {
	var l []api.Item
	for range depth {
		l = list(block(item("c"), l...))
	}
	return l
}

// deeper: the lines of a print, one depth further down.
func deeper(s string) string {
	var b strings.Builder
	for line := range strings.Lines(s) {
		b.WriteString("  " + line)
	}
	return b.String()
}

// modelPrint is the print that the chapter tells, block by block.
func modelPrint(l []api.Item) string {
	var b strings.Builder
	for _, x := range l {
		b.WriteString(x.Name)
		for _, w := range x.Words {
			b.WriteString(" " + scan.Print(w))
		}
		if x.Block {
			b.WriteString(" {\n" + deeper(modelPrint(x.Kids)) + "}\n")
		} else {
			b.WriteString(";\n")
		}
	}
	return b.String()
}

const letter = `a-zA-Z\x{C0}-\x{D6}\x{D8}-\x{F6}\x{F8}-\x{24F}\x{370}-\x{3FF}\x{400}-\x{4FF}`

var nameForm = regexp.MustCompile(`^[` + letter + `](?:[` + letter + `0-9_-]*[` + letter + `0-9])?$`)

func modelName(s string) bool {
	return utf8.ValidString(s) && utf8.RuneCountInString(s) <= 24 && nameForm.MatchString(s)
}

func modelCount(l []api.Item) int {
	n := len(l)
	for _, x := range l {
		n += modelCount(x.Kids)
	}
	return n
}

func modelDepth(l []api.Item) int {
	deepest := 0
	for _, x := range l {
		deepest = max(deepest, 1+modelDepth(x.Kids))
	}
	return deepest
}

// modelItems: is each of them right, and each of their kids?
func modelItems(l []api.Item) bool {
	for _, x := range l {
		if !modelName(x.Name) || len(x.Words) > 6 || !x.Block && len(x.Kids) > 0 || !modelItems(x.Kids) {
			return false
		}
		for _, w := range x.Words {
			if !slices.Contains([]int{api.TokName, api.TokText, api.TokCount, api.TokFactor, api.TokShare, api.TokSpan}, w.Kind) || !scan.Right(w) {
				return false
			}
		}
	}
	return true
}

func modelRight(l []api.Item) bool {
	return modelItems(l) && modelCount(l) <= 300 && modelDepth(l) <= 4
}

// modelText is a text that two trees have in common just if they are the same but for places.
func modelText(l []api.Item) string {
	var b strings.Builder
	for _, x := range l {
		fmt.Fprintf(&b, "[%q %v", x.Name, x.Block)
		for _, w := range x.Words {
			fmt.Fprintf(&b, " (%d %q %d)", w.Kind, w.Text, w.N)
		}
		b.WriteString(" <" + modelText(x.Kids) + ">]")
	}
	return b.String()
}

// alike: the same, places and all; lists without items may be nil or empty.
func alike(a, b []api.Item) bool {
	return slices.EqualFunc(a, b, func(x, y api.Item) bool {
		return x.Name == y.Name && x.At == y.At && x.Block == y.Block && slices.Equal(x.Words, y.Words) && alike(x.Kids, y.Kids)
	})
}

// visit each item of a tree.
func visit(l []api.Item, f func(*api.Item)) {
	for i := range l {
		f(&l[i])
		visit(l[i].Kids, f)
	}
}

// copied: the same tree, places and all, in lists of its own; nil ones stay nil, and those of no length are of no length.
func copied(l []api.Item) []api.Item {
	if l == nil {
		return nil
	}
	c := make([]api.Item, len(l))
	for i, x := range l {
		c[i] = x
		c[i].Kids = copied(x.Kids)
		if x.Words != nil {
			c[i].Words = append(make([]api.Tok, 0, len(x.Words)), x.Words...)
		}
	}
	return c
}

// placed: the same tree with places that a function tells.
func placed(l []api.Item, place func() api.Spot) []api.Item {
	l = copied(l)
	visit(l, func(x *api.Item) {
		x.At = place()
		for k := range x.Words {
			x.Words[k].At = place()
		}
	})
	return l
}

// nowhere: all places are 0, 0.
func nowhere(l []api.Item) []api.Item {
	return placed(l, func() api.Spot { return api.Spot{} })
}

// anyPlaces tells places of whatever numbers.
func anyPlaces(r *rand.Rand) func() api.Spot {
	numbers := []int{0, 1, -1, 2, 7, -40000, math.MaxInt, math.MinInt}
	return func() api.Spot {
		return api.Spot{Line: numbers[r.Intn(len(numbers))], Col: numbers[r.Intn(len(numbers))]}
	}
}

// shown is a text in a test's words, cut off where it is very long.
func shown(s string) string {
	if len(s) > 600 {
		return fmt.Sprintf("%s.. of %d bytes", strconv.QuoteToASCII(s[:600]), len(s))
	}
	return strconv.QuoteToASCII(s)
}

// wantPrint: it is right, and has this print.
func wantPrint(t *testing.T, l []api.Item, want string) {
	t.Helper()
	was := copied(l)
	if !layout.Right(l) {
		t.Errorf("not right: %s", shown(modelText(l)))
	}
	if s, c := layout.Print(l); s != want || c != api.Fine {
		t.Errorf("Print(%s): %s, %v, not %s", shown(modelText(l)), shown(s), c, shown(want))
	}
	if !reflect.DeepEqual(l, was) {
		t.Errorf("%s was changed to %s", shown(modelText(was)), shown(modelText(l)))
	}
}

// wantWrong: it isn't right, and has no print.
func wantWrong(t *testing.T, l []api.Item) {
	t.Helper()
	was := copied(l)
	if layout.Right(l) {
		t.Errorf("right: %s", shown(modelText(l)))
	}
	if s, c := layout.Print(l); s != "" || c != api.Form {
		t.Errorf("Print(%s): %s, %v", shown(modelText(l)), shown(s), c)
	}
	if !reflect.DeepEqual(l, was) {
		t.Errorf("%s was changed to %s", shown(modelText(was)), shown(modelText(l)))
	}
}

// wantRight or not, as is told, and with the print that the model has.
func wantRight(t *testing.T, l []api.Item, right bool) {
	t.Helper()
	if right {
		wantPrint(t, l, modelPrint(l))
	} else {
		wantWrong(t, l)
	}
}

// wantSize: it has so many items, and the deepest is so deep.
func wantSize(t *testing.T, l []api.Item, count, depth int) {
	t.Helper()
	if n := layout.Count(l); n != count {
		t.Errorf("Count(%s): %d, not %d", shown(modelText(l)), n, count)
	}
	if n := layout.Depth(l); n != depth {
		t.Errorf("Depth(%s): %d, not %d", shown(modelText(l)), n, depth)
	}
}

// wantBare: without places it is itself, and the same; and it stays as it is.
func wantBare(t *testing.T, l []api.Item) {
	t.Helper()
	was := copied(l)
	if b := layout.Bare(l); !alike(b, nowhere(l)) || !layout.Same(l, b) || !layout.Same(b, l) {
		t.Errorf("Bare(%s): %s", shown(modelText(l)), shown(modelText(b)))
	}
	if !reflect.DeepEqual(l, was) {
		t.Errorf("%s was changed to %s", shown(modelText(was)), shown(modelText(l)))
	}
}

// wantSame, or not, in whichever order they are asked for.
func wantSame(t *testing.T, a, b []api.Item, same bool) {
	t.Helper()
	if layout.Same(a, b) != same || layout.Same(b, a) != same {
		t.Errorf("Same(%s, %s): not %v", shown(modelText(a)), shown(modelText(b)), same)
	}
}

// wantAll: each call answers as the models do.
func wantAll(t *testing.T, l []api.Item) {
	t.Helper()
	wantRight(t, l, modelRight(l))
	wantSize(t, l, modelCount(l), modelDepth(l))
	wantBare(t, l)
	wantSame(t, l, l, true)
	wantSame(t, l, copied(l), true)
}

// parsed from a source.
func parsed(t *testing.T, s string) []api.Item {
	t.Helper()
	l, f := tree.Parse(s)
	if f != (api.Fault{}) {
		t.Fatalf("Parse(%s): %v", shown(s), f)
	}
	return l
}

// The chapter's example, and the document's.
func TestExamples(t *testing.T) {
	wantPrint(t, parsed(t, "rule a{for 2m;}"), "rule a {\n  for 2m;\n}\n")
	wantPrint(t, list(block(item("rule", name("a")), item("for", number(api.TokSpan, 120)))), "rule a {\n  for 2m;\n}\n")
	wantPrint(t, parsed(t, "objective a { target 90%; grain 10s; rule r page { long 20s; short 10s; factor 1; } }"),
		"objective a {\n  target 90%;\n  grain 10s;\n  rule r page {\n    long 20s;\n    short 10s;\n    factor 1;\n  }\n}\n")
	wantPrint(t, parsed(t, "label a \"x\";#\nnotify{room 16;cap 90m;}"), "label a \"x\";\nnotify {\n  room 16;\n  cap 1h30m;\n}\n")
}

// P15.1, P15.2: no items, nil and of no length.
func TestNoItems(t *testing.T) {
	for _, l := range [][]api.Item{nil, {}, many(3)[:0]} {
		wantPrint(t, l, "")
		wantSize(t, l, 0, 0)
		wantBare(t, l)
		for _, m := range [][]api.Item{nil, {}, many(3)[:0]} {
			wantSame(t, l, m, true)
		}
		wantSame(t, l, many(1), false)
		wantSame(t, l, list(api.Item{}), false)
	}
}

// P15.1: items with no words, nil and of no length, with one of each kind, with as many as may be, and with one more.
func TestWords(t *testing.T) {
	wantPrint(t, list(item("a")), "a;\n")
	wantPrint(t, list(api.Item{Name: "a", Words: []api.Tok{}}), "a;\n")
	wantPrint(t, list(block(item("a"))), "a {\n}\n")
	all, prints := words()
	for k, w := range all {
		wantPrint(t, list(item("a", w)), "a "+prints[k]+";\n")
		wantPrint(t, list(block(item("a", w))), "a "+prints[k]+" {\n}\n")
		wantPrint(t, list(block(item("x"), item("a", w), item("c", w, w))), "x {\n  a "+prints[k]+";\n  c "+prints[k]+" "+prints[k]+";\n}\n")
		// The kinds in turn, as many as may be: each one is the last.
		mixed := append(all[k:len(all):len(all)], all[:k]...)
		written := append(prints[k:len(all):len(all)], prints[:k]...)
		for n := range 7 {
			wantPrint(t, list(item("a", mixed[:n]...)), strings.Join(append([]string{"a"}, written[:n]...), " ")+";\n")
			wantPrint(t, list(block(item("a", mixed[:n]...), item("b"))), strings.Join(append([]string{"a"}, written[:n]...), " ")+" {\n  b;\n}\n")
		}
		for _, more := range all {
			wantWrong(t, list(item("a", append(mixed[:6:6], more)...)))
			wantWrong(t, list(block(item("a", append(mixed[:6:6], more)...))))
			wantWrong(t, list(block(item("x"), item("a", append(mixed[:6:6], more)...))))
			wantWrong(t, list(item("a", mixed...), item("a", append(mixed[:6:6], more)...), item("a")))
		}
	}
	for n := range 20 {
		wantRight(t, list(item("a", slices.Repeat([]api.Tok{count(1)}, n)...)), n <= 6)
		wantRight(t, list(item("a", slices.Repeat([]api.Tok{name("a")}, n)...)), n <= 6)
	}
	wantWrong(t, list(item("a", make([]api.Tok, 1000000)...)))
	wantWrong(t, list(item("a", slices.Repeat([]api.Tok{count(1)}, 1000000)...)))
}

// P15.1: names of one rune and of as many as may be, of letters beyond a to z, too.
func TestNames(t *testing.T) {
	for _, s := range []string{
		"a", "z", "A", "Z", "é", "ж", "ω", "À", "ɏ", "Ͱ", "Ͽ", "Ѐ", "ӿ", "Ö", "Ø", "ö", "ø", "a1", "a-b", "a_b", "a--__9", "é-ж_9", "Жук", "x9",
		strings.Repeat("a", 24), strings.Repeat("é", 24), strings.Repeat("ж", 24), "ω" + strings.Repeat("-", 22) + "9", strings.Repeat("aé", 12),
	} {
		wantPrint(t, list(item(s)), s+";\n")
		wantPrint(t, list(block(item(s))), s+" {\n}\n")
		wantPrint(t, list(block(item("x", name(s)), item(s, name(s), quoted(s)))), "x "+s+" {\n  "+s+" "+s+" \""+s+"\";\n}\n")
		wantPrint(t, within(3, item(s)), "w {\n  w {\n    w {\n      "+s+";\n    }\n  }\n}\n")
	}
	// Words of what is watched are no more than names here, and one of a name doesn't hold against another.
	wantPrint(t, list(item("objective"), item("objective"), block(item("objective"), item("objective"))), "objective;\nobjective;\nobjective {\n  objective;\n}\n")
}

// notNames: none of them is a name.
func notNames() []string {
	return []string{
		"", strings.Repeat("a", 25), strings.Repeat("é", 25), "a" + strings.Repeat("1", 24), strings.Repeat("a", 1000000), "1", "1a", "0", "_", "-", "_a", "-a", "a-", "a_", "é-", "a b", " a", "a ", "a;", "a{", "}", "\"a\"", "a.b", "a%", "a#", "#", "a\t", "\ta",
		"a\n", "\na", "a\nb", "\n", "a;\nb", "a\r", "a\x00", "\x00", "×", "a×", "÷", "a÷b", "ɐ", "aͯ", "Ԁ", "¿", "中", "a中b", "😀", "\x7f", "\u0080", "\u00a0", "\ufffd", "\ufeffa",
		"\xff", "a\xff", "\xffa", "a\xffb", "a\xc3", "\xc3\x28", "a\xc1\xa1", "\xed\xa0\x80", "a\xf4\x90\x80\x80", strings.Repeat("a", 23) + "\xff", "\xc3",
	}
}

// wrongWords: none of them may stand behind an item's name.
func wrongWords() []api.Tok {
	wrong := []api.Tok{
		{}, {Kind: api.TokEnd, At: api.Spot{Line: 1, Col: 1}}, number(api.TokOpen, 0), number(api.TokShut, 0), number(api.TokStop, 0),
		number(-1, 0), number(10, 0), number(11, 7), number(100, 0), number(math.MaxInt, 0), number(math.MinInt, 0), {Kind: -1, Text: "a"}, {Kind: 10, Text: "a"}, {Kind: math.MaxInt, Text: "a", N: 1}, {Kind: math.MinInt, N: 1},
		{Kind: api.TokEnd, Text: "a"}, {Kind: api.TokOpen, Text: "{"}, {Kind: api.TokShut, Text: "}"}, {Kind: api.TokStop, Text: ";"}, number(api.TokEnd, 1), number(api.TokOpen, 1), number(api.TokShut, 1), number(api.TokStop, 1),
		{Kind: api.TokName}, {Kind: api.TokName, Text: "a", N: 1}, {Kind: api.TokName, N: 1}, {Kind: api.TokName, Text: "a", N: math.MaxUint64},
		{Kind: api.TokText, N: 1}, {Kind: api.TokText, Text: "a", N: 1}, quoted("\xff"), quoted("a\xc3"), quoted("\xed\xa0\x80"), quoted("\xc0\x80"), quoted(strings.Repeat("a", 121)), quoted(strings.Repeat("é", 121)), quoted(strings.Repeat("\n", 121)), quoted(strings.Repeat("a", 1000000)), quoted(strings.Repeat("a", 119) + "\xff"),
		{Kind: api.TokCount, Text: "7", N: 7}, {Kind: api.TokCount, Text: "a"}, {Kind: api.TokFactor, Text: "1.0", N: 1000}, {Kind: api.TokFactor, Text: " "},
		{Kind: api.TokShare, Text: "5%", N: 50000}, number(api.TokShare, 1000001), number(api.TokShare, 1<<32), number(api.TokShare, 1<<32+1), number(api.TokShare, math.MaxUint64),
		{Kind: api.TokSpan, Text: "1h", N: 3600}, number(api.TokSpan, 253402300800), number(api.TokSpan, 1<<63), number(api.TokSpan, 1<<63+7), number(api.TokSpan, math.MaxUint64),
	}
	for _, s := range notNames() {
		wrong = append(wrong, name(s))
	}
	return wrong
}

// P15.1: wrong names, in each place, and beside right items.
func TestWrongNames(t *testing.T) {
	all, _ := words()
	for _, s := range notNames() {
		for blocks := range 4 {
			wantWrong(t, within(blocks, item(s)))
			wantWrong(t, within(blocks, item(s, all...)))
			wantWrong(t, within(blocks, block(item(s))))
			wantWrong(t, within(blocks, item("a"), item(s)))
			wantWrong(t, within(blocks, item(s), item("a")))
			wantWrong(t, within(blocks, item("a", all...), block(item(s, all...)), block(item("c"))))
		}
		for kids := range 4 {
			wantWrong(t, list(block(item(s), chain(kids)...)))
			wantWrong(t, list(item("a"), block(item("b"), chain(kids)...), block(item("c"), item("d"), item(s)), item("e")))
		}
		wantWrong(t, append(many(299), item(s)))
		wantWrong(t, append(list(item(s)), many(299)...))
	}
}

// P15.1: wrong words of each kind, in each place, and beside right ones.
func TestWrongWords(t *testing.T) {
	all, _ := words()
	for _, w := range wrongWords() {
		for blocks := range 4 {
			wantWrong(t, within(blocks, item("a", w)))
			wantWrong(t, within(blocks, block(item("a", w))))
			wantWrong(t, within(blocks, item("a"), item("b", w), item("c")))
			wantWrong(t, within(blocks, item("a", all...), block(item("b", append(all[1:6:6], w)...)), block(item("c"))))
		}
		for i := range all {
			wantWrong(t, list(item("a", append(append(all[:i:i], w), all[i+1:]...)...)))
			wantWrong(t, list(item("a", append(all[:i:i], w)...), item("b", all...)))
		}
		for kids := range 4 {
			wantWrong(t, list(block(item("a", w), chain(kids)...)))
		}
		wantWrong(t, append(many(299), item("a", w)))
		w.At = api.Spot{Line: 3, Col: 7}
		wantWrong(t, list(item("a", w)))
	}
	// Each kind's own ends.
	for kind := -3; kind < 14; kind++ {
		wantRight(t, list(item("a", number(kind, 0))), kind >= api.TokText && kind <= api.TokSpan)
		wantRight(t, list(item("a", number(kind, 7))), kind >= api.TokCount && kind <= api.TokSpan)
		wantRight(t, list(item("a", api.Tok{Kind: kind, Text: "b"})), kind == api.TokName || kind == api.TokText)
		wantRight(t, list(item("a", api.Tok{Kind: kind, Text: "1"})), kind == api.TokText)
		wantWrong(t, list(item("a", api.Tok{Kind: kind, Text: "b", N: 7})))
	}
}

// P15.1: words are printed as scan prints them.
func TestPrintsOfWords(t *testing.T) {
	for _, x := range []struct {
		word  api.Tok
		print string
	}{
		{count(0), "0"}, {count(1), "1"}, {count(100), "100"}, {count(math.MaxUint64), "18446744073709551615"},
		{number(api.TokFactor, 0), "0.0"}, {number(api.TokFactor, 1), "0.001"}, {number(api.TokFactor, 10), "0.01"}, {number(api.TokFactor, 100), "0.1"}, {number(api.TokFactor, 1000), "1.0"}, {number(api.TokFactor, 1500), "1.5"}, {number(api.TokFactor, 1050), "1.05"}, {number(api.TokFactor, 10000), "10.0"}, {number(api.TokFactor, 14400), "14.4"}, {number(api.TokFactor, math.MaxUint64), "18446744073709551.615"},
		{number(api.TokShare, 0), "0%"}, {number(api.TokShare, 1), "0.0001%"}, {number(api.TokShare, 1000), "0.1%"}, {number(api.TokShare, 10000), "1%"}, {number(api.TokShare, 999000), "99.9%"}, {number(api.TokShare, 999999), "99.9999%"}, {number(api.TokShare, 1000000), "100%"},
		{number(api.TokSpan, 0), "0s"}, {number(api.TokSpan, 59), "59s"}, {number(api.TokSpan, 60), "1m"}, {number(api.TokSpan, 5400), "1h30m"}, {number(api.TokSpan, 86400), "1d"}, {number(api.TokSpan, 604800), "1w"}, {number(api.TokSpan, 694861), "1w1d1h1m1s"}, {number(api.TokSpan, 253402300799), "418985w1d23h59m59s"},
		{quoted(""), `""`}, {quoted(" "), `" "`}, {quoted("a b"), `"a b"`}, {quoted(";{}#"), `";{}#"`}, {quoted(`a"b`), `"a\"b"`}, {quoted(`\`), `"\\"`}, {quoted("a\nb"), `"a\nb"`}, {quoted("\t"), `"\t"`}, {quoted("\r"), `"\u{d}"`}, {quoted("\x00"), `"\u{0}"`}, {quoted("\x1f"), `"\u{1f}"`}, {quoted("\x7f"), `"\u{7f}"`}, {quoted("\u0080é中😀\ufffd\U0010ffff"), "\"\u0080é中😀\ufffd\U0010ffff\""}, {quoted("# a;\n}"), `"# a;\n}"`},
		{quoted(strings.Repeat("é", 120)), `"` + strings.Repeat("é", 120) + `"`}, {quoted(strings.Repeat("\x01", 120)), `"` + strings.Repeat(`\u{1}`, 120) + `"`},
		{name("b"), "b"}, {name("é-9"), "é-9"}, {name("page"), "page"}, {name(strings.Repeat("ж", 24)), strings.Repeat("ж", 24)},
	} {
		wantPrint(t, list(item("a", x.word)), "a "+x.print+";\n")
		wantPrint(t, within(1, block(item("é", x.word, x.word), item("c", x.word))), "w {\n  é "+x.print+" "+x.print+" {\n    c "+x.print+";\n  }\n}\n")
		if l := list(item("a", x.word)); !layout.Same(parsed(t, modelPrint(l)), l) {
			t.Errorf("%s is read as another one", x.print)
		}
		// As they were written first plays no part.
		if l := parsed(t, "a "+x.print+" ;"); !layout.Same(l, list(item("a", x.word))) {
			t.Error(x.print, l)
		}
	}
	wantPrint(t, parsed(t, `a 1.500 2.000 0.00 90s 0.1% "\u{61}\u{9}\u{a}\u{22}";`), `a 1.5 2.0 0.0 1m30s 0.1% "a\t\n\"";`+"\n")
	wantPrint(t, parsed(t, `a 0s 0w0s 60s 24h 100% 0%;`), "a 0s 0s 1m 1d 100% 0%;\n")
}

// P15.1: blocks with no kids, nil and of no length, with one, with several, with blocks within; and the blanks ahead of all lines.
func TestBlocks(t *testing.T) {
	for _, none := range [][]api.Item{nil, {}, many(2)[:0]} {
		wantPrint(t, list(api.Item{Name: "a", Block: true, Kids: none}), "a {\n}\n")
		wantPrint(t, list(api.Item{Name: "a", Kids: none}), "a;\n")
		wantPrint(t, within(2, api.Item{Name: "a", Block: true, Kids: none}, api.Item{Name: "b", Kids: none}), "w {\n  w {\n    a {\n    }\n    b;\n  }\n}\n")
	}
	wantPrint(t, list(block(item("a"), item("b"))), "a {\n  b;\n}\n")
	wantPrint(t, list(block(item("a"), item("b"), item("c"), item("d"))), "a {\n  b;\n  c;\n  d;\n}\n")
	wantPrint(t, list(block(item("a")), block(item("b")), item("c")), "a {\n}\nb {\n}\nc;\n")
	wantPrint(t, list(item("a"), block(item("b"), item("c")), item("d")), "a;\nb {\n  c;\n}\nd;\n")
	wantPrint(t, list(block(item("a"), block(item("b")))), "a {\n  b {\n  }\n}\n")
	wantPrint(t, list(block(item("a"), block(item("b"), item("c")), block(item("d"), item("e")))), "a {\n  b {\n    c;\n  }\n  d {\n    e;\n  }\n}\n")
	wantPrint(t, list(block(item("a"), item("b"), block(item("c"), item("d")), item("e")), item("f")), "a {\n  b;\n  c {\n    d;\n  }\n  e;\n}\nf;\n")
	wantPrint(t, chain(1), "c {\n}\n")
	wantPrint(t, chain(2), "c {\n  c {\n  }\n}\n")
	wantPrint(t, chain(3), "c {\n  c {\n    c {\n    }\n  }\n}\n")
	wantPrint(t, chain(4), "c {\n  c {\n    c {\n      c {\n      }\n    }\n  }\n}\n")
	// Several blocks are shut at once, and others are opened behind them, at each depth.
	wantPrint(t, append(append(chain(4), chain(3)...), item("x")), "c {\n  c {\n    c {\n      c {\n      }\n    }\n  }\n}\nc {\n  c {\n    c {\n    }\n  }\n}\nx;\n")
	for depth := 1; depth <= 4; depth++ {
		blanks := strings.Repeat("  ", depth-1)
		front, back := "", ""
		for i := range depth - 1 {
			front += strings.Repeat("  ", i) + "w {\n"
			back = strings.Repeat("  ", i) + "}\n" + back
		}
		wantPrint(t, within(depth-1, item("a")), front+blanks+"a;\n"+back)
		wantPrint(t, within(depth-1, block(item("a"))), front+blanks+"a {\n"+blanks+"}\n"+back)
		wantPrint(t, within(depth-1, block(item("a", count(7))), item("b"), block(item("c")), item("d", count(8))), front+blanks+"a 7 {\n"+blanks+"}\n"+blanks+"b;\n"+blanks+"c {\n"+blanks+"}\n"+blanks+"d 8;\n"+back)
	}
}

// P15.1: kids of what is no block, at each depth.
func TestKidsOfNoBlock(t *testing.T) {
	all, _ := words()
	for blocks := range 4 {
		for _, kids := range [][]api.Item{many(1), many(2), chain(1), chain(2), list(api.Item{}), list(item("1")), many(300)} {
			wantWrong(t, within(blocks, api.Item{Name: "a", Kids: kids}))
			wantWrong(t, within(blocks, api.Item{Name: "a", Words: all, Kids: kids}))
			wantWrong(t, within(blocks, item("a"), api.Item{Name: "b", Kids: kids}))
			wantWrong(t, within(blocks, api.Item{Name: "a", Kids: kids}, block(item("b"))))
		}
		wantPrint(t, within(blocks, api.Item{Name: "a", Kids: []api.Item{}}), modelPrint(within(blocks, item("a"))))
	}
	wantWrong(t, list(block(item("a"), api.Item{Name: "b", Kids: many(1)}, item("c"))))
}

// P15.1: items as deep as may be, and one deeper; what is too deep, and too much at once.
func TestMaxDeep(t *testing.T) {
	for depth := range 20 {
		wantRight(t, chain(depth), depth <= 4)
		wantRight(t, within(depth, item("a")), depth <= 3)
		wantRight(t, within(depth, block(item("a")), item("b")), depth <= 3)
		wantRight(t, within(depth, api.Item{Name: "a", Block: true, Kids: []api.Item{}}), depth <= 3)
		wantRight(t, append(many(3), chain(depth)...), depth <= 4)
		wantRight(t, append(chain(depth), many(3)...), depth <= 4)
		wantRight(t, slices.Concat(chain(4), many(1), chain(depth), chain(4)), depth <= 4)
		wantRight(t, list(item("a"), block(item("b"), append(many(2), chain(depth)...)...), item("c")), depth <= 3)
		wantSize(t, chain(depth), depth, depth)
		wantSize(t, within(depth, item("a"), item("b")), depth+2, depth+1)
	}
	wantWrong(t, within(4, many(300)...))
	wantWrong(t, within(4, many(301)...))
	wantWrong(t, append(many(301), chain(5)...))
	wantWrong(t, append(chain(5), many(301)...))
	wantWrong(t, append(many(301), chain(301)...))
	wantWrong(t, append(many(296), chain(5)...))
	wantRight(t, append(many(296), chain(4)...), true)
	wantWrong(t, chain(300))
	wantWrong(t, chain(301))
}

// P15.1: as many items as may be, and one more: side by side, and within blocks at each depth.
func TestMaxItems(t *testing.T) {
	for n := 295; n < 306; n++ {
		wantRight(t, many(n), n <= 300)
		for blocks := range 4 {
			wantRight(t, within(blocks, many(n-blocks)...), n <= 300)
			wantRight(t, within(blocks, append(many(n-blocks-1), block(item("b")))...), n <= 300)
			wantSize(t, within(blocks, many(n-blocks)...), n, blocks+1)
			// Some within, some behind, some ahead.
			half := within(blocks, many(100)...)
			wantRight(t, append(half, many(n-100-blocks)...), n <= 300)
			wantRight(t, append(many(n-100-blocks), half...), n <= 300)
			wantRight(t, slices.Concat(many(50), half, many(n-150-blocks)), n <= 300)
		}
		for depth := 1; depth <= 4; depth++ {
			// Blocks side by side, one item in each of their depths.
			wantRight(t, append(many(n-60*depth), slices.Concat(slices.Repeat(chain(depth), 60))...), n <= 300)
		}
		wantRight(t, append(slices.Repeat(list(block(item("a"), item("b"), item("c"))), 98), many(n-294)...), n <= 300)
	}
	wantWrong(t, many(100000))
	wantWrong(t, within(3, many(100000)...))
}

// P15.1: places of whatever numbers play no part.
func TestPlaces(t *testing.T) {
	r := rand.New(rand.NewSource(151))
	all, _ := words()
	for _, l := range [][]api.Item{many(3), chain(4), within(3, item("a", all...)), list(block(item("a", all...), item("b", all[2:]...)), item("c", all[1])), many(300)} {
		for range 20 {
			p := placed(l, anyPlaces(r))
			wantPrint(t, p, modelPrint(l))
			wantBare(t, p)
			wantSame(t, p, l, true)
			wantSame(t, p, placed(l, anyPlaces(r)), true)
			wantSize(t, p, modelCount(l), modelDepth(l))
		}
	}
	for _, n := range []int{0, 1, -1, math.MaxInt, math.MinInt} {
		for _, at := range []api.Spot{{Line: n}, {Col: n}, {Line: n, Col: n}} {
			l := list(api.Item{Name: "a", Words: []api.Tok{{Kind: api.TokCount, N: 7, At: at}}, At: at})
			wantPrint(t, l, "a 7;\n")
			wantSame(t, l, list(item("a", count(7))), true)
			wantBare(t, l)
			l[0].Kids = many(1)
			wantWrong(t, l)
			wantBare(t, l)
		}
	}
}

// trees of all sorts, right ones and others; no two of them are the same.
func trees() [][]api.Item {
	all, _ := words()
	l := [][]api.Item{
		nil, many(1), many(2), many(3), list(item("b")), list(item("A")), list(item("a"), item("b")), list(item("b"), item("a")), list(item("ab")), list(item("")), list(item(""), item("")), list(item("\xff")), list(item("\xfe")), list(item("a\n")), list(item("1")), list(item("a b")),
		list(item("a", name("b"))), list(item("a", quoted("b"))), list(item("a", api.Tok{Kind: 7, Text: "b"})), list(item("a", name("b"), name("b"))), list(item("a", name("b")), item("b")), list(item("a"), item("b", name("b"))), list(item("b", name("b")), item("a")),
		list(item("a", count(7))), list(item("a", count(8))), list(item("a", number(api.TokFactor, 7))), list(item("a", number(api.TokShare, 7))), list(item("a", number(api.TokSpan, 7))), list(item("a", number(7, 7))), list(item("a", number(-1, 7))), list(item("a", api.Tok{Kind: api.TokCount, Text: "7", N: 7})), list(item("a", name("7"))), list(item("a", count(7), count(8))), list(item("a", count(8), count(7))), list(item("a", api.Tok{})), list(item("a", api.Tok{}, api.Tok{})), list(item("a", count(1<<32+7))), list(item("a", count(math.MaxUint64))),
		list(item("a", all...)), list(item("a", all[1:]...)), list(item("a", append(all, name("z"))...)), list(item("a", append(all, name("y"))...)),
		chain(1), chain(2), chain(3), chain(4), chain(5), chain(60), list(block(item("a"))), list(block(item("a", count(7)))), list(block(item("a")), block(item("a"))), list(item("a"), block(item("a"))), list(block(item("a")), item("a")),
		list(block(item("a"), item("a"))), list(block(item("a"), item("b"))), list(block(item("a"), item("a"), item("a"))), list(block(item("a"), block(item("a")))), list(block(item("a")), item("b")), list(block(item("a"), item("b")), item("b")), list(block(item("a"), item("b"), item("b"))), list(block(item("a"), item("b", count(7)))), list(block(item("a", count(7)), item("b"))),
		list(api.Item{Name: "a", Kids: many(1)}), list(api.Item{Name: "a", Kids: many(2)}), list(api.Item{Name: "a", Kids: list(item("b"))}), list(api.Item{Name: "a", Kids: chain(1)}), list(block(item("a"), api.Item{Name: "b", Kids: many(1)})), list(block(item("a"), block(item("b"), many(1)...))),
		many(299), many(300), many(301), append(many(300), item("b")), append(list(item("b")), many(300)...), within(3, many(2)...), within(3, item("a"), item("b")), within(3, item("a", count(1))), within(3, block(item("a"))), within(3, api.Item{Name: "a", Kids: many(1)}), within(10, many(301)...),
	}
	return l
}

// P15.2: of all sorts of trees, those that aren't right too, each one is the same as itself alone.
func TestSame(t *testing.T) {
	r := rand.New(rand.NewSource(152))
	all := trees()
	for i, a := range all {
		wantAll(t, a)
		for k, b := range all {
			wantSame(t, a, b, i == k)
			wantSame(t, placed(a, anyPlaces(r)), placed(b, anyPlaces(r)), i == k)
		}
	}
}

// changes are all trees that differ from one in one thing alone, at each of its items.
func changes(l []api.Item) [][]api.Item {
	var changed [][]api.Item
	n := modelCount(l)
	change := func(i int, f func(*api.Item)) {
		c := copied(l)
		at := 0
		visit(c, func(x *api.Item) {
			if at == i {
				f(x)
			}
			at++
		})
		if modelText(c) != modelText(l) {
			changed = append(changed, c)
		}
	}
	for i := range n {
		change(i, func(x *api.Item) { x.Name += "x" })
		change(i, func(x *api.Item) { x.Name = "" })
		change(i, func(x *api.Item) { x.Block = !x.Block })
		change(i, func(x *api.Item) { x.Kids = append(x.Kids, item("x")) })
		change(i, func(x *api.Item) { x.Kids = append(list(item("x")), x.Kids...) })
		change(i, func(x *api.Item) { x.Kids = x.Kids[:max(0, len(x.Kids)-1)] })
		change(i, func(x *api.Item) { x.Words = append(x.Words, count(0)) })
		change(i, func(x *api.Item) { x.Words = append(x.Words, api.Tok{}) })
		change(i, func(x *api.Item) { x.Words = x.Words[:max(0, len(x.Words)-1)] })
		change(i, func(x *api.Item) { slices.Reverse(x.Words) })
		change(i, func(x *api.Item) { slices.Reverse(x.Kids) })
		for k := range 6 {
			word := func(f func(*api.Tok)) {
				change(i, func(x *api.Item) {
					if k < len(x.Words) {
						f(&x.Words[k])
					}
				})
			}
			word(func(w *api.Tok) { w.Kind++ })
			word(func(w *api.Tok) { w.Kind = -w.Kind })
			word(func(w *api.Tok) { w.Text += " " })
			word(func(w *api.Tok) { w.Text = "" })
			word(func(w *api.Tok) { w.N++ })
			word(func(w *api.Tok) { w.N += 1 << 32 })
			word(func(w *api.Tok) { w.N ^= 1 << 63 })
		}
	}
	return changed
}

// P15.2: trees that differ in one thing, in one place alone.
func TestSameButOne(t *testing.T) {
	r := rand.New(rand.NewSource(153))
	all, _ := words()
	for _, l := range [][]api.Item{
		many(3), list(item("a", all...)), list(item("a", all[:2]...), item("b", all[2:]...)), chain(4), chain(9),
		list(block(item("a", all...), item("b"), block(item("c", all[3]), item("d", all[1:]...), block(item("e"), item("f", all[4])), item("g", all[0])), item("h")), item("i", all[5])),
		list(api.Item{Name: "a", Words: wrongWords()[:12], Kids: list(api.Item{Name: "", Kids: chain(3)})}),
	} {
		for _, c := range changes(l) {
			wantSame(t, l, c, false)
			wantSame(t, placed(l, anyPlaces(r)), c, false)
			wantAll(t, c)
			wantSame(t, append(copied(l), many(1)...), append(copied(c), many(1)...), false)
		}
	}
	// All the deeper, where the difference is at the end of all.
	for depth := range 30 {
		wantSame(t, within(depth, item("a"), item("b", count(7))), within(depth, item("a"), item("b", count(8))), false)
		wantSame(t, within(depth, item("a"), item("b", count(7))), within(depth, item("a"), item("b", count(7))), true)
		wantSame(t, within(depth, chain(1)...), within(depth, item("c")), false)
		wantSame(t, chain(depth), chain(depth+1), false)
	}
}

// P15.2: lists without items may be nil or of no length: items, words and kids.
func TestNilAndEmpty(t *testing.T) {
	for _, words := range [][]api.Tok{nil, {}, make([]api.Tok, 5)[:0]} {
		for _, kids := range [][]api.Item{nil, {}, many(5)[:0]} {
			for _, isBlock := range []bool{false, true} {
				for blocks := range 6 {
					l := within(blocks, api.Item{Name: "a", Words: words, Block: isBlock, Kids: kids})
					wantAll(t, l)
					wantSame(t, l, within(blocks, api.Item{Name: "a", Block: isBlock}), true)
					wantSame(t, l, within(blocks, api.Item{Name: "a", Words: []api.Tok{}, Block: isBlock, Kids: []api.Item{}}), true)
					wantSame(t, l, within(blocks, api.Item{Name: "a", Block: !isBlock, Kids: kids}), false)
				}
			}
		}
	}
}

// P15.2: how many items, and how deep the deepest, which is the first, in the middle, or the last.
func TestCountAndDepth(t *testing.T) {
	wantSize(t, many(1), 1, 1)
	wantSize(t, many(7), 7, 1)
	wantSize(t, chain(1), 1, 1)
	wantSize(t, list(block(item("a")), block(item("b"))), 2, 1)
	wantSize(t, list(api.Item{Name: "a", Block: true, Kids: []api.Item{}}), 1, 1)
	wantSize(t, list(block(item("a"), many(5)...)), 6, 2)
	wantSize(t, append(chain(3), many(2)...), 5, 3)
	wantSize(t, slices.Concat(many(1), chain(3), many(1)), 5, 3)
	wantSize(t, append(many(2), chain(3)...), 5, 3)
	wantSize(t, slices.Concat(chain(2), chain(4), chain(3)), 9, 4)
	wantSize(t, slices.Concat(chain(4), chain(2), chain(3)), 9, 4)
	wantSize(t, slices.Concat(chain(2), chain(3), chain(4)), 9, 4)
	wantSize(t, list(block(item("a"), slices.Concat(many(1), chain(2), many(2))...), item("b")), 7, 3)
	// Of trees that aren't right, too.
	wantSize(t, list(api.Item{Name: "a", Kids: many(5)}), 6, 2)
	wantSize(t, list(api.Item{Kids: list(api.Item{Kids: list(api.Item{})})}), 3, 3)
	wantSize(t, list(item("a", make([]api.Tok, 20)...)), 1, 1)
	wantSize(t, many(1000), 1000, 1)
	wantSize(t, chain(1000), 1000, 1000)
	wantSize(t, within(50, many(1000)...), 1050, 51)
	wantSize(t, slices.Repeat(chain(7), 100), 700, 7)
}

// R1: trees as deep as may be handed in, one within the other or with items at each depth.
func TestVeryDeep(t *testing.T) {
	const deep = 60000
	thin, thick, other := chain(deep), many(1), many(1)
	for i := range deep - 1 {
		thick = slices.Concat(many(2), list(api.Item{Name: "a", Words: []api.Tok{{At: api.Spot{Line: i}}}, Kids: thick}), many(1))
		other = slices.Concat(many(2), list(api.Item{Name: "a", Words: []api.Tok{{At: api.Spot{Col: i}}}, Kids: other}), many(1))
	}
	wantSize(t, thin, deep, deep)
	wantSize(t, thick, 4*deep-3, deep)
	for _, l := range [][]api.Item{thin, thick} {
		if s, c := layout.Print(l); s != "" || c != api.Form || layout.Right(l) {
			t.Error("right", len(s), c)
		}
	}
	if !layout.Same(thick, other) || layout.Same(thin, thick) || !layout.Same(thin, chain(deep)) || layout.Same(thin, chain(deep-1)) || layout.Same(chain(deep-1), thin) {
		t.Error("not the same")
	}
	bare := layout.Bare(thick)
	if !layout.Same(bare, other) || layout.Count(bare) != 4*deep-3 || layout.Depth(bare) != deep {
		t.Error("not the same without places")
	}
	if !alike(bare, nowhere(thick)) || alike(bare, thick) {
		t.Error("places")
	}
}

// What isn't right is told as such without going through all of it, however great it is.
func TestGreatTrees(t *testing.T) {
	twice := many(2)
	for range 55 {
		twice = list(block(item("a"), twice...), block(item("b"), twice...))
	}
	endless := chain(1)
	endless[0].Kids = endless
	wide := list(block(item("a"), twice...), item("1"))
	for _, l := range [][]api.Item{twice, endless, wide, append(many(2), endless...)} {
		if s, c := layout.Print(l); s != "" || c != api.Form || layout.Right(l) {
			t.Error("right", len(s), c)
		}
	}
}

// P15.3: what is printed is parsed: the same but for places.
func wantParsed(t *testing.T, l []api.Item) {
	t.Helper()
	s, c := layout.Print(l)
	if c != api.Fine {
		t.Fatalf("Print(%s): %v", shown(modelText(l)), c)
	}
	again, f := tree.Parse(s)
	if len(s) > 40000 {
		if f != (api.Fault{Code: api.Long, At: api.Spot{Line: 1, Col: 1}}) {
			t.Errorf("Parse(%s): %v", shown(s), f)
		}
		return
	}
	if f != (api.Fault{}) || !layout.Same(again, l) || modelText(again) != modelText(l) || !alike(layout.Bare(again), nowhere(l)) {
		t.Errorf("%s is parsed as %s, %v", shown(s), shown(modelText(again)), f)
	}
	wantPrint(t, again, s)
}

// P15.3: what was parsed, and printed, is printed again as it is.
func TestParsedAndPrinted(t *testing.T) {
	for _, s := range []string{
		"", "#", "a;", "\ta\n;", "a{}", "a{#}\n}", "rule a page { for 2m; }", "a  1.50 \"x\" ; b{c{}d é;}", "a{b{c{d 1 2 3 4 5 6;}}}", "a 0.0 0% 0s \"\" 0 a;", "a \"\\u{7f}\\u{0}\\t\\n\\\\\\\"\";", "a 1.000;", "\n\n a # }\n { b ; # {\n }",
		"objective a { target 90%; grain 10s; rule r page { long 20s; short 10s; factor 1; } }", "a{a;a{a{a;}a;}}a;", strings.Repeat("a;", 300), "w{" + strings.Repeat("a{}", 299) + "}", "a 99999s;", "a 7d;b 61s 3601s;",
	} {
		l := parsed(t, s)
		first, c := layout.Print(l)
		if c != api.Fine || first != modelPrint(l) {
			t.Errorf("Print(Parse(%s)): %s, %v", shown(s), shown(first), c)
		}
		wantPrint(t, parsed(t, first), first)
		wantParsed(t, l)
	}
	for _, l := range trees() {
		if modelRight(l) {
			wantParsed(t, l)
		}
	}
	// A print may be too long for a source.
	long := many(300)
	for i := range long {
		long[i].Words = slices.Repeat([]api.Tok{quoted(strings.Repeat("\x7f", 120))}, 6)
	}
	wantPrint(t, long, strings.Repeat("a"+strings.Repeat(` "`+strings.Repeat(`\u{7f}`, 120)+`"`, 6)+";\n", 300))
	wantParsed(t, long)
	wantParsed(t, long[:9])
}

// shapes are all trees of so many items, of one name, that are blocks or not, with kids in whichever.
func shapes(n int) [][]api.Item {
	if n == 0 {
		return [][]api.Item{nil}
	}
	var all [][]api.Item
	for kids := range n {
		for _, within := range shapes(kids) {
			for _, behind := range shapes(n - 1 - kids) {
				all = append(all, append(list(api.Item{Name: "a", Kids: within}), behind...), append(list(api.Item{Name: "a", Block: true, Kids: within}), behind...))
			}
		}
	}
	return all
}

// P15.1 to P15.3: all small shapes of trees.
func TestShapes(t *testing.T) {
	var seen [][]api.Item
	for n := range 6 {
		all := shapes(n)
		for _, l := range all {
			wantAll(t, l)
			if modelRight(l) {
				wantParsed(t, l)
			}
		}
		if n < 5 {
			seen = append(seen, all...)
		}
	}
	for i, a := range seen {
		for k, b := range seen {
			if layout.Same(a, b) != (i == k) {
				t.Fatalf("Same(%s, %s)", modelText(a), modelText(b))
			}
		}
	}
}

// anyTree of a depth, as many items as are left at the most, right ones.
func anyTree(r *rand.Rand, depth int, left *int) []api.Item {
	names := []string{"a", "b", "rule", "é", "Жук", "x-9", strings.Repeat("ω", 24)}
	var l []api.Item
	for range r.Intn(6) {
		if *left == 0 {
			break
		}
		*left--
		x := api.Item{Name: names[r.Intn(len(names))]}
		for range r.Intn(7) {
			x.Words = append(x.Words, anyWord(r))
		}
		if r.Intn(2) == 0 {
			x.Block = true
			if depth < 4 {
				x.Kids = anyTree(r, depth+1, left)
			}
		}
		l = append(l, x)
	}
	return l
}

func anyWord(r *rand.Rand) api.Tok {
	switch n := r.Uint64() >> r.Intn(64); r.Intn(6) {
	case 0:
		return count(n)
	case 1:
		return number(api.TokFactor, n)
	case 2:
		return number(api.TokShare, n%1000001)
	case 3:
		return number(api.TokSpan, n%253402300800)
	case 4:
		return name([]string{"a", "é9", "page", "x_-_x"}[n%4])
	}
	var b strings.Builder
	for range r.Intn(8) {
		b.WriteRune([]rune{'a', ' ', '"', '\\', '\n', '\t', 0, 0x1f, 0x7f, 'é', '{', '}', ';', '#', 0xfffd, 0x10ffff}[r.Intn(16)])
	}
	return quoted(b.String())
}

// P15.1 to P15.3: any right trees, and such with one thing wrong or other.
func TestAnyTree(t *testing.T) {
	r := rand.New(rand.NewSource(154))
	for range 2000 {
		left := 300
		l := placed(anyTree(r, 1, &left), anyPlaces(r))
		if !modelRight(l) {
			t.Fatal(modelText(l))
		}
		wantAll(t, l)
		wantParsed(t, l)
		wantSame(t, l, placed(l, anyPlaces(r)), true)
		at, n := r.Intn(1+modelCount(l)), 0
		spoiled := copied(l)
		visit(spoiled, func(x *api.Item) {
			if n == at {
				spoil(r, x)
			}
			n++
		})
		wantAll(t, spoiled)
		wantSame(t, l, spoiled, modelText(l) == modelText(spoiled))
	}
}

// spoil one thing of an item, or make it another one that is right.
func spoil(r *rand.Rand, x *api.Item) {
	switch r.Intn(7) {
	case 0:
		x.Name = notNames()[r.Intn(len(notNames()))]
	case 1:
		x.Words = append(x.Words, wrongWords()[r.Intn(len(wrongWords()))])
	case 2:
		x.Words = append(x.Words, anyWord(r), anyWord(r))
	case 3:
		x.Block = !x.Block
	case 4:
		x.Kids = append(x.Kids, chain(1+r.Intn(4))...)
	case 5:
		x.Kids = append(x.Kids, many(r.Intn(300))...)
	case 6:
		if len(x.Words) > 0 {
			w := &x.Words[r.Intn(len(x.Words))]
			w.Kind, w.Text, w.N = r.Intn(12)-1, []string{w.Text, "a", ""}[r.Intn(3)], []uint64{w.N, 0, 7, 1000001, 253402300800}[r.Intn(5)]
		}
	}
}

// wreck all that a tree has, and the room behind each list.
func wreck(l []api.Item) {
	for i := range l {
		wreck(l[i].Kids)
		for k := range l[i].Words {
			l[i].Words[k] = api.Tok{Kind: 99, Text: "gone"}
		}
		_ = append(l[i].Words, api.Tok{Kind: 98, Text: "behind"})
		_ = append(l[i].Kids, api.Item{Name: "behind"})
		l[i] = api.Item{Name: "gone"}
	}
	_ = append(l, api.Item{Name: "behind"})
}

// P15.2: what Bare tells shares no memory with what was handed in, and no two lists of it share any.
func TestBareIsTheCallers(t *testing.T) {
	all, _ := words()
	for _, l := range append(trees(), list(
		block(item("a", all...), item("b", all[1:]...), block(item("c", all[2]), item("d"), item("e", all[:3]...)), block(item("f"))), api.Item{Name: "g", Words: all[:2], Kids: many(3)}, item("h", all[5]))) {
		was := copied(l)
		bare := layout.Bare(l)
		want := nowhere(l)
		wreck(l)
		if !alike(bare, want) {
			t.Fatalf("with what was handed in: %s", shown(modelText(bare)))
		}
		other := layout.Bare(was)
		// What is put behind one list stands in no other one.
		_ = append(bare, item("x"), item("y"), item("z"))
		visit(bare, func(x *api.Item) {
			_ = append(x.Words, count(1), count(2), count(3))
			_ = append(x.Kids, item("x"), item("y"), item("z"))
		})
		if !alike(bare, want) {
			t.Fatalf("with each other: %s", shown(modelText(bare)))
		}
		// Nor does what is put into one.
		if len(bare) > 0 && len(bare[0].Words) > 0 {
			bare[0].Words[0].Text = "gone"
			want[0].Words[0].Text = "gone"
			if !alike(bare, want) {
				t.Fatalf("with each other: %s", shown(modelText(bare)))
			}
		}
		wreck(bare)
		if !alike(other, nowhere(was)) || !alike(layout.Bare(was), nowhere(was)) {
			t.Fatalf("with another answer: %s", shown(modelText(other)))
		}
	}
	// Lists with room behind them, and lists that share what they have, are as any others.
	shared := []api.Tok{count(1), count(2), count(3)}
	kids := many(3)
	l := append(make([]api.Item, 0, 9), block(item("a", shared...), kids...), block(item("b", shared[:2]...), kids[1:]...), block(item("c", shared[1:]...), kids...))
	bare := layout.Bare(l)
	bare[0].Words[1].N, bare[0].Kids[1].Name = 9, "z"
	if bare[1].Words[1].N != 2 || bare[2].Words[0].N != 2 || bare[1].Kids[0].Name != "a" || bare[2].Kids[1].Name != "a" || shared[1].N != 2 || kids[1].Name != "a" {
		t.Error(modelText(bare))
	}
	wantBare(t, l)
	// Lists of no length have room behind them, too, of which others know.
	room, roomOfKids, roomOfWords := many(3), many(3), []api.Tok{count(1), count(2)}
	none := layout.Bare(room[:0])
	bare = layout.Bare(list(api.Item{Name: "a", Words: roomOfWords[:0], Kids: roomOfKids[:0]}))
	_ = append(none, item("x"))
	_ = append(bare[0].Kids, item("x"))
	_ = append(bare[0].Words, count(9))
	if room[0].Name != "a" || roomOfKids[0].Name != "a" || roomOfWords[0].N != 1 {
		t.Error(room, roomOfKids, roomOfWords)
	}
}
