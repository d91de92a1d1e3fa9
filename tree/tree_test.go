package tree_test

import (
	"fmt"
	"math/rand"
	"slices"
	"strconv"
	"strings"
	"testing"
	"unicode/utf8"

	"firebell/api"
	"firebell/scan"
	"firebell/tree"
)

func at(line, col int) api.Spot { return api.Spot{Line: line, Col: col} }

func fault(c api.Code, line, col int) api.Fault { return api.Fault{Code: c, At: at(line, col)} }

// word that a text is (a name, a number, or a quoted text), at a place.
func word(s string, line, col int) api.Tok {
	l, f := scan.Tokens(s)
	if f != (api.Fault{}) || len(l) != 2 {
		panic("no word: " + s)
	}
	l[0].At = at(line, col)
	return l[0]
}

func item(name string, line, col int, words ...api.Tok) api.Item {
	return api.Item{Name: name, Words: words, At: at(line, col)}
}

func block(head api.Item, kids ...api.Item) api.Item {
	head.Block, head.Kids = true, kids
	return head
}

// same: alike, places and all.
func same(a, b []api.Item) bool {
	return slices.EqualFunc(a, b, func(x, y api.Item) bool {
		return x.Name == y.Name && x.At == y.At && x.Block == y.Block && slices.Equal(x.Words, y.Words) && same(x.Kids, y.Kids)
	})
}

// bare: the same items without places, in lists of their own.
func bare(l []api.Item) []api.Item {
	l = slices.Clone(l)
	for i := range l {
		l[i].At = api.Spot{}
		l[i].Words = slices.Clone(l[i].Words)
		for k := range l[i].Words {
			l[i].Words[k].At = api.Spot{}
		}
		l[i].Kids = bare(l[i].Kids)
	}
	return l
}

// lower: the same items, so many lines further down.
func lower(l []api.Item, lines int) []api.Item {
	l = slices.Clone(l)
	for i := range l {
		l[i].At.Line += lines
		l[i].Words = slices.Clone(l[i].Words)
		for k := range l[i].Words {
			l[i].Words[k].At.Line += lines
		}
		l[i].Kids = lower(l[i].Kids, lines)
	}
	return l
}

func countOf(l []api.Item) int {
	n := len(l)
	for _, x := range l {
		n += countOf(x.Kids)
	}
	return n
}

// shown is a text in a test's words, cut off where it is very long.
func shown(s string) string {
	if len(s) > 300 {
		return fmt.Sprintf("%s.. of %d bytes", strconv.QuoteToASCII(s[:300]), len(s))
	}
	return strconv.QuoteToASCII(s)
}

func shownTree(l []api.Item) string {
	return fmt.Sprintf("%.1500s", treeText(l))
}

func treeText(l []api.Item) string {
	var b strings.Builder
	for _, x := range l {
		fmt.Fprintf(&b, "[%s at %d,%d", x.Name, x.At.Line, x.At.Col)
		for _, w := range x.Words {
			fmt.Fprintf(&b, " (%d %q %d at %d,%d)", w.Kind, w.Text, w.N, w.At.Line, w.At.Col)
		}
		if x.Block || len(x.Kids) > 0 {
			fmt.Fprintf(&b, " %v {%s}", x.Block, treeText(x.Kids))
		}
		b.WriteString("]")
	}
	return b.String()
}

// wantTree: it has just these items.
func wantTree(t *testing.T, s string, want ...api.Item) {
	t.Helper()
	if l, f := tree.Parse(s); f != (api.Fault{}) || !same(l, want) {
		t.Errorf("Parse(%s): %s, %v, not %s", shown(s), shownTree(l), f, shownTree(want))
	}
}

// wantFault: there is this one, and no items.
func wantFault(t *testing.T, s string, c api.Code, line, col int) {
	t.Helper()
	if l, f := tree.Parse(s); f != fault(c, line, col) || len(l) != 0 {
		t.Errorf("Parse(%s): %s, %v, not %v", shown(s), shownTree(l), f, fault(c, line, col))
	}
}

// wantFaultBehind: of two pieces, at the first rune of the second one.
func wantFaultBehind(t *testing.T, front, wrong string, c api.Code) {
	t.Helper()
	line := strings.LastIndexByte(front, '\n') + 1
	wantFault(t, front+wrong, c, 1+strings.Count(front, "\n"), 1+utf8.RuneCountInString(front[line:]))
}

// wantCount: it has so many items in all.
func wantCount(t *testing.T, s string, n int) {
	t.Helper()
	if l, f := tree.Parse(s); f != (api.Fault{}) || countOf(l) != n {
		t.Errorf("Parse(%s): %d items, %v, not %d", shown(s), countOf(l), f, n)
	}
}

// words of each kind, as they are written.
func words() []string { return []string{"b", `"é ;{}#"`, "7", "14.4", "99.9%", "1h30m"} }

// notWords are the tokens of all other kinds but TokEnd.
func notWords() []string { return []string{"{", "}", ";"} }

// The chapter's example, and the document's.
func TestExamples(t *testing.T) {
	wantTree(t, "rule a page { for 2m; }",
		block(item("rule", 1, 1, word("a", 1, 6), word("page", 1, 8)), item("for", 1, 15, word("2m", 1, 19))))
	wantTree(t, "objective a { target 90%; grain 10s; rule r page { long 20s; short 10s; factor 1; } }",
		block(item("objective", 1, 1, word("a", 1, 11)),
			item("target", 1, 15, word("90%", 1, 22)),
			item("grain", 1, 27, word("10s", 1, 33)),
			block(item("rule", 1, 38, word("r", 1, 43), word("page", 1, 45)),
				item("long", 1, 52, word("20s", 1, 57)),
				item("short", 1, 62, word("10s", 1, 68)),
				item("factor", 1, 73, word("1", 1, 80)))))
}

// P14.1: sources without items.
func TestNoItems(t *testing.T) {
	for _, s := range []string{"", " ", "\t", "\n", "\n\n\t \n", "#", "##", "# a;", "# a;\n", "\n #a{\n\t# }\n", "# \xff\"@", "#\n#\n#", strings.Repeat(" ", 40000), "#" + strings.Repeat("a", 39999), strings.Repeat("\n", 40000)} {
		wantTree(t, s)
	}
}

// P14.1: items with no word, and with one of each kind, with a stop and with a block.
func TestWords(t *testing.T) {
	wantTree(t, "a;", item("a", 1, 1))
	wantTree(t, "a{}", block(item("a", 1, 1)))
	for _, w := range words() {
		wantTree(t, "é "+w+";", item("é", 1, 1, word(w, 1, 3)))
		wantTree(t, "é "+w+"{}", block(item("é", 1, 1, word(w, 1, 3))))
		wantTree(t, "é\n\t"+w+" ;", item("é", 1, 1, word(w, 2, 2)))
		wantTree(t, "x{é "+w+"; y;}", block(item("x", 1, 1), item("é", 1, 3, word(w, 1, 5)), item("y", 1, 1+len([]rune("x{é "+w+"; ")))))
	}
	// What stands behind a name is a word, a name as well.
	wantTree(t, "a a a;", item("a", 1, 1, word("a", 1, 3), word("a", 1, 5)))
	wantTree(t, `a""7"";`, item("a", 1, 1, word(`""`, 1, 2), word("7", 1, 4), word(`""`, 1, 5)))
	wantTree(t, "a 0 0.0 0% 0s;", item("a", 1, 1, word("0", 1, 3), word("0.0", 1, 5), word("0%", 1, 9), word("0s", 1, 12)))
	wantTree(t, "a 18446744073709551615 418985w1d23h59m59s 100%;", item("a", 1, 1, word("18446744073709551615", 1, 3), word("418985w1d23h59m59s", 1, 24), word("100%", 1, 43)))
}

// P14.1: as many words as there may be, of each kind, and one more, whatever is behind it.
func TestMaxWords(t *testing.T) {
	for k := range words() {
		// The kinds in turn: each one is the last, and the one too many.
		mixed := append(words()[k:], words()[:k]...)
		wanted := item("a", 1, 1)
		s := "a"
		for _, w := range mixed {
			wanted.Words = append(wanted.Words, word(w, 1, 2+utf8.RuneCountInString(s)))
			s += " " + w
			next := 2 + utf8.RuneCountInString(s)
			wantTree(t, s+" ;", wanted)
			wantTree(t, s+" {b;}", block(wanted, item("b", 1, next+1)))
			wantTree(t, "\n"+s+" ;c;", lower([]api.Item{wanted, item("c", 1, next+1)}, 1)...)
		}
		for _, more := range words() {
			for _, behind := range []string{"", ";", "{", "{}", "}", " b;", " b c d e;", ";;", "\n", " # ;\n", " 1 2 3 4 5 6 7;"} {
				wantFaultBehind(t, s+" ", more+behind, api.Long)
				wantFaultBehind(t, "x; y{ "+s+" #\n\t", more+behind+"}", api.Long)
				wantFaultBehind(t, "w{x{y{ "+s+"\n", more+behind+"}}}", api.Long)
			}
		}
		// Of other tokens there it is Form that is told.
		wantFaultBehind(t, s, "}", api.Form)
		wantFaultBehind(t, s, "", api.Form)
		wantFaultBehind(t, "x{"+s, "}}", api.Form)
	}
	// Each item has its own words.
	wantTree(t, "a 1 2 3 4 5 6;b 1 2 3 4 5 6;", item("a", 1, 1, word("1", 1, 3), word("2", 1, 5), word("3", 1, 7), word("4", 1, 9), word("5", 1, 11), word("6", 1, 13)),
		item("b", 1, 15, word("1", 1, 17), word("2", 1, 19), word("3", 1, 21), word("4", 1, 23), word("5", 1, 25), word("6", 1, 27)))
	wantFault(t, "a 1 2 3 4 5 6{b 1 2 3 4 5 6; c 1 2 3 4 5 6 d;}", api.Long, 1, 44)
	wantFault(t, "a 1 2 3 4 5 6 7 8 9;", api.Long, 1, 15)
}

// P14.1: blocks with no kids, with one, with several, with blocks within; items of a block behind which others follow.
func TestBlocks(t *testing.T) {
	wantTree(t, "a { }", block(item("a", 1, 1)))
	wantTree(t, "a{#}\n}", block(item("a", 1, 1)))
	wantTree(t, "a{b;}", block(item("a", 1, 1), item("b", 1, 3)))
	wantTree(t, "a{b;c;d;}", block(item("a", 1, 1), item("b", 1, 3), item("c", 1, 5), item("d", 1, 7)))
	wantTree(t, "a{b{}}", block(item("a", 1, 1), block(item("b", 1, 3))))
	wantTree(t, "a{b{c;}d{e;}}", block(item("a", 1, 1), block(item("b", 1, 3), item("c", 1, 5)), block(item("d", 1, 8), item("e", 1, 10))))
	wantTree(t, "a{}b{}c;", block(item("a", 1, 1)), block(item("b", 1, 4)), item("c", 1, 7))
	wantTree(t, "a{b;c;}d;", block(item("a", 1, 1), item("b", 1, 3), item("c", 1, 5)), item("d", 1, 8))
	wantTree(t, "a{b{c{d;}e;}f;}g;", block(item("a", 1, 1), block(item("b", 1, 3), block(item("c", 1, 5), item("d", 1, 7)), item("e", 1, 10)), item("f", 1, 13)), item("g", 1, 16))
	wantTree(t, "a;b{c;}d;e{f{}}g;", item("a", 1, 1), block(item("b", 1, 3), item("c", 1, 5)), item("d", 1, 8), block(item("e", 1, 10), block(item("f", 1, 12))), item("g", 1, 16))
	wantTree(t, "a{b c{d;}e f;}g h{}", block(item("a", 1, 1), block(item("b", 1, 3, word("c", 1, 5)), item("d", 1, 7)), item("e", 1, 10, word("f", 1, 12))), block(item("g", 1, 15, word("h", 1, 17))))
	// One of a name doesn't hold against another.
	wantTree(t, "a{a;a{}}a;", block(item("a", 1, 1), item("a", 1, 3), block(item("a", 1, 5))), item("a", 1, 9))
	wantTree(t, strings.Repeat("a", 24)+"{é-ж_9;}", block(item(strings.Repeat("a", 24), 1, 1), item("é-ж_9", 1, 26)))
}

// P14.1: an item's place is its name's, and its words have theirs, behind gaps of all sorts.
func TestPlaces(t *testing.T) {
	wantTree(t, "\n\n\ta\n 1 # é;\n\n\t\t\"ж\" b;", item("a", 3, 2, word("1", 4, 2), word(`"ж"`, 6, 3), word("b", 6, 7)))
	wantTree(t, "# é\n#\xff\n a # {\n{ # }\n\tb\n;\n}\nc;", block(item("a", 3, 2), item("b", 5, 2)), item("c", 8, 1))
	wantTree(t, "é ж{ω \"é😀\" α;}β;", block(item("é", 1, 1, word("ж", 1, 3)), item("ω", 1, 5, word(`"é😀"`, 1, 7), word("α", 1, 12))), item("β", 1, 15))
	wantTree(t, "a{\n b{\n  c{\n   d 7;\n  }\n }\n}\ne;\n", block(item("a", 1, 1), block(item("b", 2, 2), block(item("c", 3, 3), item("d", 4, 4, word("7", 4, 6))))), item("e", 8, 1))
	wantTree(t, "\t\ta\t\tb\t;\tc;", item("a", 1, 3, word("b", 1, 6)), item("c", 1, 10))
	wantFault(t, "# \xff\xff é\n\té 😀", api.Word, 2, 4)
	wantFault(t, "# \xff\xff é\n\té \"😀\" }", api.Form, 2, 8)
	wantFault(t, "a\n# ;\n\n ", api.Form, 4, 2)
	wantFault(t, "a{\n# }\n#", api.Form, 3, 2)
	wantFault(t, "a;\n\n\t\"é\";", api.Form, 3, 2)
}

// nested are as many blocks as are asked for, none of them shut.
func nested(depth int) string { return strings.Repeat("a{", depth) }

// P14.1: items as deep as may be, and one deeper.
func TestDepth(t *testing.T) {
	for depth := range 4 {
		shut := strings.Repeat("}", depth)
		wantCount(t, nested(depth)+shut, depth)
		wantCount(t, nested(depth)+"b;"+shut, depth+1)
		wantCount(t, nested(depth)+"b{}"+shut, depth+1)
		wantCount(t, nested(depth)+"b;c 1{}d;"+shut+"e;", depth+4)
	}
	wantTree(t, "a{b{c{d{}}}}", block(item("a", 1, 1), block(item("b", 1, 3), block(item("c", 1, 5), block(item("d", 1, 7))))))
	wantTree(t, "a{b{c{d 1;}}}", block(item("a", 1, 1), block(item("b", 1, 3), block(item("c", 1, 5), item("d", 1, 7, word("1", 1, 9))))))
	for _, behind := range []string{"", ";", " 1;", "{", "{}", "}", "{}}}}}", ";}}}}", "{f;}}}}}", " 1 2 3 4 5 6 7;", "\n"} {
		wantFaultBehind(t, nested(4), "e"+behind, api.Deep)
		wantFaultBehind(t, "x; y{z;}\n"+nested(4)+" #\n\t", "é"+behind, api.Deep)
		// The depth comes down again behind a block, and goes up in the next one.
		wantFaultBehind(t, nested(4)+"}}}}"+nested(4), "e"+behind, api.Deep)
		wantFaultBehind(t, nested(4)+"}b;c{", "e"+behind, api.Deep)
		wantFaultBehind(t, nested(3)+"b;c{}}}"+nested(2)+"b;c{", "e"+behind, api.Deep)
	}
	wantCount(t, "a{b{c{d{}d{}d;}c{d{}}}b{c{d{}}}}a{b{c{d{}}}}", 15)
	// Blocks side by side aren't deep.
	wantCount(t, strings.Repeat("a{}", 20), 20)
	wantCount(t, "a{"+strings.Repeat("b{c{d{}}}", 20)+"}", 61)
	// What is deeper than may be, but no name, is Form.
	for _, s := range []string{"", ";", "{", "1", `"e"`, "1h", "5%", "1.5"} {
		wantFaultBehind(t, nested(4), s, api.Form)
	}
}

// P14.1: where an item may begin, each token but a name, a shut brace without a block, and the end within one.
func TestWhereItemsBegin(t *testing.T) {
	for depth := range 5 {
		for _, front := range []string{"", "b;", "b 1;c;", "b;\n\t"} {
			if depth == 4 && front != "" {
				continue
			}
			for _, w := range append(words()[1:], "{", ";") {
				for _, behind := range []string{"", ";", "{}", " a;", strings.Repeat("}", depth)} {
					wantFaultBehind(t, nested(depth)+front, w+behind, api.Form)
				}
			}
			for still := range depth {
				// Too few shut braces: the end comes while blocks are open.
				wantFaultBehind(t, nested(depth)+front+strings.Repeat("}", still), "", api.Form)
			}
			shut := nested(depth) + front + strings.Repeat("}", depth)
			for _, behind := range []string{"}", "};", "}}", "} a;", "}{", "}\n"} {
				wantFaultBehind(t, shut, behind, api.Form)
				wantFaultBehind(t, shut+" #}\n ", behind, api.Form)
			}
		}
	}
	wantFault(t, "}", api.Form, 1, 1)
	wantFault(t, "{", api.Form, 1, 1)
	wantFault(t, ";", api.Form, 1, 1)
	wantFault(t, "{}", api.Form, 1, 1)
	wantFault(t, "a{};", api.Form, 1, 4)
	wantFault(t, "a;;", api.Form, 1, 3)
	wantFault(t, "a;}", api.Form, 1, 3)
	wantFault(t, "a{};b{};", api.Form, 1, 4)
	wantFault(t, "a{", api.Form, 1, 3)
	wantFault(t, "a{b;", api.Form, 1, 5)
	wantFault(t, "a{b;}\n}\n", api.Form, 2, 1)
}

// P14.1: within an item the end, and a shut brace.
func TestWithinItems(t *testing.T) {
	for depth := range 4 {
		for n := range 7 {
			front := nested(depth) + "é" + strings.Repeat(" 1", n)
			for _, behind := range []string{"", "}", "};", "}}", "} a;", strings.Repeat("}", depth+1)} {
				wantFaultBehind(t, front, behind, api.Form)
				wantFaultBehind(t, front+" # ;\n", behind, api.Form)
				wantFaultBehind(t, "x;"+front+"\n\n\t", behind, api.Form)
			}
		}
	}
	wantFault(t, "a", api.Form, 1, 2)
	wantFault(t, "a ", api.Form, 1, 3)
	wantFault(t, "a\n", api.Form, 2, 1)
	wantFault(t, "a # ;", api.Form, 1, 6)
	wantFault(t, "a;b", api.Form, 1, 4)
	wantFault(t, "a{b}", api.Form, 1, 4)
	wantFault(t, "a b}", api.Form, 1, 4)
}

// manyIn are so many items in all, with as many blocks open around the last of them, and what shuts these.
func manyIn(n, depth int) (string, string) {
	return nested(depth) + strings.Repeat("b;", n-depth), strings.Repeat("}", depth)
}

// P14.1: as many items as there may be in the whole source, and one more.
func TestMaxItems(t *testing.T) {
	for depth := range 4 {
		front, shut := manyIn(299, depth)
		wantCount(t, front+shut, 299)
		front, shut = manyIn(300, depth)
		wantCount(t, front+shut, 300)
		for _, behind := range []string{"", ";", " 1;", "{", "{}", "}", " 1 2 3 4 5 6 7;", "{d;}"} {
			wantFaultBehind(t, front, "é"+behind+shut, api.Long)
			wantFaultBehind(t, front+"\n# c;\n ", "é"+behind+shut, api.Long)
			// It is too many also behind all the blocks, and behind some.
			wantFaultBehind(t, front+shut, "é"+behind, api.Long)
			wantFaultBehind(t, front+shut[:depth/2], "é"+behind+shut[depth/2:], api.Long)
		}
		// What is no name, though there are that many, is Form.
		for _, s := range []string{";", "{", "7", `"b"`} {
			wantFaultBehind(t, front, s+shut, api.Form)
		}
		wantFaultBehind(t, front+shut, "}", api.Form)
		if depth > 0 {
			wantFaultBehind(t, front+shut[1:], "", api.Form)
		}
		// Within the last one all is as it is in others.
		last, _ := manyIn(299, depth)
		wantCount(t, last+"b 1 2 3 4 5 6;"+shut, 300)
		wantCount(t, last+"b{}"+shut, 300)
		wantFaultBehind(t, last+"b 1 2 3 4 5 6 ", "7;"+shut, api.Long)
		wantFaultBehind(t, last+"b", "}", api.Form)
	}
	// Blocks count, and their kids.
	wantCount(t, strings.Repeat("a{b;c;}", 100), 300)
	wantFaultBehind(t, strings.Repeat("a{b;c;}", 100), "d;", api.Long)
	wantFaultBehind(t, strings.Repeat("a{b;c;}", 99)+"a{b;c;", "d;}", api.Long)
	wantCount(t, strings.Repeat("a{b{c{d{}}}}", 75), 300)
	wantFaultBehind(t, strings.Repeat("a{b{c{d{}}}}", 75), "a;", api.Long)
	wantFaultBehind(t, "x;"+strings.Repeat("a{b{c{d{}}}}", 74)+"a{b{c{", "d{}}}}", api.Long)
	wantFaultBehind(t, "x;y;"+strings.Repeat("a{b{c{d{}}}}", 74)+"a{b{", "c{d{}}}}", api.Long)
	wantFaultBehind(t, "x;y;z;"+strings.Repeat("a{b{c{d{}}}}", 74)+"a{", "b{c{d{}}}}", api.Long)
	wantCount(t, strings.Repeat("a{}", 300), 300)
	wantFaultBehind(t, strings.Repeat("a{}", 300), "a{}", api.Long)
	// The items of one block are fewer, those of the source are more than may be.
	wantFaultBehind(t, "a{"+strings.Repeat("b;", 149)+"}c{"+strings.Repeat("d;", 149), "d;}", api.Long)
	wantCount(t, strings.Repeat("a 1 2 3 4 5 6;", 300), 300)
	// Words aren't items.
	wantFault(t, "a 1 2 3 4 5 6 7;"+strings.Repeat("a;", 301), api.Long, 1, 15)
	// What begins is counted anew by each call.
	for range 3 {
		wantCount(t, strings.Repeat("a;", 200), 200)
	}
}

// P14.1: a name that is both too deep, and one too many.
func TestDeepAndLong(t *testing.T) {
	for _, behind := range []string{"", ";", "{}", "}", ";}}}}", " 1 2 3 4 5 6 7;"} {
		wantFaultBehind(t, strings.Repeat("b;", 296)+nested(4), "e"+behind, api.Deep)
		wantFaultBehind(t, strings.Repeat("b;", 295)+nested(4), "e"+behind, api.Deep)
		wantFaultBehind(t, strings.Repeat("b;", 297)+nested(3), "a{e"+behind, api.Long)
		wantFaultBehind(t, nested(3)+strings.Repeat("b;", 296)+"c{", "e"+behind, api.Deep)
		wantFaultBehind(t, nested(3)+strings.Repeat("b;", 297), "c{e"+behind, api.Long)
		wantFaultBehind(t, strings.Repeat("b;", 300), nested(4)+"e"+behind, api.Long)
	}
}

// P14.1: of several faults one behind the other the first is told.
func TestFirstFault(t *testing.T) {
	wrong := []struct {
		front, wrong, behind string
		code                 api.Code
	}{
		{"", ";", "\n", api.Form}, {"x ", "}", "\n", api.Form}, {"", "7", ";\n", api.Form}, {"x{ y; ", "5%", "; }\n", api.Form},
		{"x 1 2 3 4 5 6 ", "y", ";\n", api.Long}, {"x{ y 1 2 3 4 5 6 ", "7", "{}}\n", api.Long},
		{"a{b{c{d{", "e", ";}}}}\n", api.Deep}, {"a{b;c{d{f{", "e", "{}}}}}\n", api.Deep},
	}
	tooMany := strings.Repeat("a;", 301)
	for _, first := range wrong {
		for _, second := range wrong {
			for _, third := range wrong {
				behind := first.behind + second.front + second.wrong + second.behind + third.front + third.wrong + third.behind
				wantFaultBehind(t, first.front, first.wrong+behind, first.code)
				wantFaultBehind(t, "x;y{}\n\t"+first.front, first.wrong+behind, first.code)
				wantFaultBehind(t, first.front, first.wrong+behind+tooMany, first.code)
			}
			wantFaultBehind(t, first.front, first.wrong+first.behind+tooMany+second.front+second.wrong+second.behind, first.code)
		}
		wantFaultBehind(t, tooMany[2:], "a;"+first.front+first.wrong+first.behind, api.Long)
	}
}

// P14.1: what scan finds comes first, at its place, whatever is wrong in the tokens ahead of it.
func TestFaultsOfWords(t *testing.T) {
	wrong := map[string]api.Code{
		"@": api.Word, "\xff": api.Word, "中": api.Word, "1x": api.Word, "a-": api.Word, "007": api.Word, "1.5h": api.Word, strings.Repeat("a", 25): api.Word, `"a`: api.Word, `"\x"`: api.Word, "\"\xff\"": api.Word, "\r": api.Word, "-": api.Word, "\x00": api.Word,
		`"` + strings.Repeat("é", 121) + `"`: api.Long, "200%": api.Range, "18446744073709551616": api.Range, "18446744073709551.616": api.Range, "253402300800s": api.Range,
	}
	fronts := []string{
		"", "a ", "a;", "a{", "a{b ", "a{b;}", "a 1 2 3 4 5 6 ", "é \"ж\" ", "# @\n",
		";", "}", "{", "7 ", "a }", "a 1 2 3 4 5 6 7 ", "a 1 2 3 4 5 6 7;", nested(4) + "e ", nested(4) + "e;}}}}", nested(9), strings.Repeat("a;", 301), strings.Repeat("a;", 300) + "b ", "a;}\n", "}\n\n\t ", "; \"b\"",
	}
	for s, c := range wrong {
		for _, front := range fronts {
			for _, behind := range []string{"", "\n", "\n;", "\n}@", "\n" + strings.Repeat("a;", 301)} {
				wantFaultBehind(t, front, s+behind, c)
				wantFaultBehind(t, front+"\n  ", s+behind, c)
			}
		}
	}
	// Of two of them it is scan's first.
	wantFault(t, "} 200% @", api.Range, 1, 3)
	wantFault(t, "} @ 200%", api.Word, 1, 3)
}

// P14.1: a source as long as can be, and one that is too long.
func TestMaxSource(t *testing.T) {
	wantTree(t, strings.Repeat("\n", 39998)+"a;", item("a", 39999, 1))
	wantTree(t, "a;"+strings.Repeat(" ", 39998), item("a", 1, 1))
	wantTree(t, "a"+strings.Repeat(" ", 39998)+";", item("a", 1, 1))
	wantFault(t, "a"+strings.Repeat(" ", 39999), api.Form, 1, 40001)
	for _, s := range []string{"a;", "", "}", "@", "a{b;}", nested(5), "a 1 2 3 4 5 6 7;", strings.Repeat("a;", 301), "\n \"", "200%"} {
		for _, n := range []int{40001, 40002, 100000} {
			wantFault(t, s+strings.Repeat(" ", n-len(s)), api.Long, 1, 1)
			wantFault(t, strings.Repeat("\n", n-len(s))+s, api.Long, 1, 1)
		}
	}
	for _, n := range []int{40001, 1 << 20, 1 << 23} {
		wantFault(t, strings.Repeat("a;", n), api.Long, 1, 1)
		wantFault(t, strings.Repeat("{", n), api.Long, 1, 1)
		wantFault(t, string(make([]byte, n)), api.Long, 1, 1)
	}
	wantFault(t, strings.Repeat("a{", 20000), api.Deep, 1, 9)
	wantFault(t, strings.Repeat("a;", 20000), api.Long, 1, 601)
	wantFault(t, strings.Repeat("{", 40000), api.Form, 1, 1)
	wantFault(t, strings.Repeat("a ", 20000), api.Long, 1, 15)
	wantFault(t, strings.Repeat("a\n", 20000), api.Long, 8, 1)
}

// somewhat are sources with all sorts of items, none of them ended by a line feed.
func somewhat() []string {
	return []string{
		"", " ", "# a;", "a;", "a{}", "a 1 \"x\" 5%;", "a{b;c;}", "\n\n  a{\n b 1h;\n}", "a; # b;", "rule a page { for 2m; }", "a{b{c{d{}}}}", "a;b;c;# }", "é{ж 1.5;\n\t#\n}", "a 1 2 3 4 5 6;b{}", "\ta # {\n;", "a{\n}#",
	}
}

// P14.2: sources one behind the other, each ended by a line feed, have all items.
func TestOneBehindTheOther(t *testing.T) {
	for _, first := range somewhat() {
		for _, second := range somewhat() {
			for _, third := range somewhat() {
				var want []api.Item
				lines := 0
				all := ""
				for _, s := range []string{first, second, third} {
					l, f := tree.Parse(s)
					if f != (api.Fault{}) {
						t.Fatal(shown(s), f)
					}
					want = append(want, lower(l, lines)...)
					lines += 1 + strings.Count(s, "\n")
					all += s + "\n"
				}
				wantTree(t, all, want...)
				// What is wrong behind them is at its own place, further down.
				for _, x := range []struct {
					s     string
					wrong api.Fault
				}{{"}", fault(api.Form, 1, 1)}, {"x{\n  y", fault(api.Form, 2, 4)}, {"a 1 2 3 4 5 6\n 7;", fault(api.Long, 2, 2)}, {nested(4) + "e;", fault(api.Deep, 1, 9)}, {"\n @", fault(api.Word, 2, 2)}} {
					wantFault(t, all+x.s, x.wrong.Code, lines+x.wrong.At.Line, x.wrong.At.Col)
				}
			}
		}
	}
}

// gaps of all sorts, each of which keeps words apart.
func gaps() []string {
	return []string{" ", "\t", "\n", "  ", "\n\n", "#\n", " # é;{}\" @\xff\n", "\t#\n#\n", "#a\n\t ", "\n \t\n"}
}

// written is a tree's tokens, with such gaps around each one as come by a function, and the same tree with the places that they have so.
func written(l []api.Item, gap func() string) (string, []api.Item) {
	w := writer{gap: gap, line: 1, col: 1}
	placed := w.list(l)
	w.text(gap())
	return w.b.String(), placed
}

type writer struct {
	b         strings.Builder
	gap       func() string
	line, col int
}

// text, and the place at which it begins.
func (w *writer) text(s string) api.Spot {
	from := at(w.line, w.col)
	w.b.WriteString(s)
	for _, r := range s {
		w.col++
		if r == '\n' {
			w.line, w.col = w.line+1, 1
		}
	}
	return from
}

func (w *writer) token(s string) api.Spot {
	w.text(w.gap())
	return w.text(s)
}

func (w *writer) list(l []api.Item) []api.Item {
	var placed []api.Item
	for _, x := range l {
		placed = append(placed, w.item(x))
	}
	return placed
}

func (w *writer) item(x api.Item) api.Item {
	placed := api.Item{Name: x.Name, Block: x.Block}
	placed.At = w.token(x.Name)
	for _, word := range x.Words {
		word.At = w.token(scan.Print(word))
		placed.Words = append(placed.Words, word)
	}
	if !x.Block {
		w.token(";")
		return placed
	}
	w.token("{")
	placed.Kids = w.list(x.Kids)
	w.token("}")
	return placed
}

// anyItems of a depth, as many as are left at the most.
func anyItems(r *rand.Rand, depth int, left *int) []api.Item {
	names := []string{"a", "b", "rule", "é", "Жук", "x-9", strings.Repeat("ω", 24)}
	var l []api.Item
	for range r.Intn(5) {
		if *left == 0 {
			break
		}
		*left--
		x := api.Item{Name: names[r.Intn(len(names))]}
		for range r.Intn(7) {
			x.Words = append(x.Words, word(append(words(), names...)[r.Intn(13)], 0, 0))
		}
		if r.Intn(2) == 0 {
			x.Block = true
			if depth < 4 {
				x.Kids = anyItems(r, depth+1, left)
			}
		}
		l = append(l, x)
	}
	return l
}

// P14.1, P14.2: any tree, written with any gaps, is read as it is, and with other gaps it is the same but for places.
func TestAnyTree(t *testing.T) {
	r := rand.New(rand.NewSource(141))
	for range 3000 {
		left := 300
		l := anyItems(r, 1, &left)
		var seen [][]api.Item
		for _, gap := range []func() string{
			func() string { return " " },
			func() string { return gaps()[r.Intn(len(gaps()))] },
			func() string { return "\n" },
			func() string { return "# }\n" },
		} {
			s, placed := written(l, gap)
			if len(s) > 40000 {
				continue
			}
			wantTree(t, s, placed...)
			parsed, _ := tree.Parse(s)
			seen = append(seen, bare(parsed))
		}
		for _, x := range seen {
			if !same(x, l) {
				t.Fatalf("%s, not %s", shownTree(x), shownTree(l))
			}
		}
	}
}

// P14.2: gaps play no part for what is told of a fault, but for its place.
func TestGapsAndFaults(t *testing.T) {
	for _, tokens := range [][]string{
		{"a"}, {"a", "}"}, {";"}, {"}"}, {"{"}, {"7", ";"}, {"a", ";", ";"}, {"a", "{", "b", ";"}, {"a", ";", "}"},
		{"a", "1", "2", "3", "4", "5", "6", "7", ";"}, {"a", "{", "b", "{", "c", "{", "d", "{", "e", ";", "}", "}", "}", "}"}, strings.Split(strings.Repeat("a ; ", 301), " ")[:602],
	} {
		_, want := tree.Parse(strings.Join(tokens, " "))
		if want.Code == api.Fine {
			t.Fatal(tokens)
		}
		for _, gap := range gaps() {
			s := gap + strings.Join(tokens, gap) + gap
			_, model := modelTree(s)
			wantFault(t, s, want.Code, model.At.Line, model.At.Col)
		}
	}
}

// modelTree is what the chapter says, token by token, with the lists that are open one within the other.
func modelTree(s string) ([]api.Item, api.Fault) {
	tokens, f := scan.Tokens(s)
	if f != (api.Fault{}) {
		return nil, f
	}
	lists := [][]api.Item{nil}
	within, begun := false, 0
	for _, x := range tokens {
		top := len(lists) - 1
		last := len(lists[top]) - 1
		switch {
		case !within && x.Kind == api.TokName && len(lists) > 4:
			return nil, api.Fault{Code: api.Deep, At: x.At}
		case !within && x.Kind == api.TokName && begun >= 300:
			return nil, api.Fault{Code: api.Long, At: x.At}
		case !within && x.Kind == api.TokName:
			lists[top] = append(lists[top], api.Item{Name: x.Text, At: x.At})
			within, begun = true, begun+1
		case !within && x.Kind == api.TokShut && top > 0:
			parents := lists[top-1]
			parents[len(parents)-1].Kids = lists[top]
			lists = lists[:top]
		case !within && x.Kind == api.TokEnd && top == 0:
			return lists[0], api.Fault{}
		case within && slices.Contains([]int{api.TokName, api.TokText, api.TokCount, api.TokFactor, api.TokShare, api.TokSpan}, x.Kind):
			if len(lists[top][last].Words) >= 6 {
				return nil, api.Fault{Code: api.Long, At: x.At}
			}
			lists[top][last].Words = append(lists[top][last].Words, x)
		case within && x.Kind == api.TokStop:
			within = false
		case within && x.Kind == api.TokOpen:
			lists[top][last].Block = true
			lists = append(lists, nil)
			within = false
		default:
			return nil, api.Fault{Code: api.Form, At: x.At}
		}
	}
	panic("tokens without an end")
}

// compare with the model.
func compare(t *testing.T, s string) {
	t.Helper()
	l, f := tree.Parse(s)
	want, wrong := modelTree(s)
	if f != wrong || !same(l, want) {
		t.Errorf("Parse(%s): %s, %v, not %s, %v", shown(s), shownTree(l), f, shownTree(want), wrong)
	}
}

// All short rows of tokens.
func TestShortRows(t *testing.T) {
	rows := []string{""}
	for range 8 {
		var next []string
		for _, row := range rows {
			for _, x := range []string{"a ", "{", "}", ";"} {
				next = append(next, row+x)
			}
		}
		for _, row := range next {
			compare(t, row)
		}
		rows = next
	}
	tokens := append(words(), notWords()...)
	rows = []string{""}
	for range 4 {
		var next []string
		for _, row := range rows {
			for _, x := range tokens {
				next = append(next, row+x+"\n")
			}
		}
		for _, row := range next {
			compare(t, row)
			compare(t, "x{y 1;z{"+row)
			compare(t, row+"}")
		}
		rows = next
	}
}

// Rows of any tokens, most of them in order, and right trees in which a token is lost, doubled, or another one.
func TestAnyRows(t *testing.T) {
	r := rand.New(rand.NewSource(142))
	pieces := []string{"a ", "b", ";", ";", "{", "}", "}", "1 ", "\"é\"", " 5%", "\n", "# ;\n", "c;", "d{", "e 1 2;", "@", " 200% "}
	for range 40000 {
		var b strings.Builder
		for range r.Intn(25) {
			k := len(pieces)
			if r.Intn(20) > 0 {
				k -= 2
			}
			b.WriteString(pieces[r.Intn(k)])
		}
		compare(t, b.String())
	}
	for range 4000 {
		left := 1 + r.Intn(40)
		s, _ := written(anyItems(r, 1, &left), func() string { return " " })
		tokens := strings.Split(s, " ")
		i := r.Intn(len(tokens))
		switch r.Intn(3) {
		case 0:
			tokens = slices.Delete(tokens, i, i+1)
		case 1:
			tokens = slices.Insert(tokens, i, tokens[i])
		default:
			tokens[i] = append(words(), notWords()...)[r.Intn(9)]
		}
		compare(t, strings.Join(tokens, "\n"))
	}
}

// Trees of about as many items as there may be.
func TestManyItems(t *testing.T) {
	r := rand.New(rand.NewSource(143))
	for range 400 {
		var b strings.Builder
		depth := 0
		for range 296 + r.Intn(10) {
			for depth > 0 && r.Intn(3) == 0 {
				b.WriteString("}")
				depth--
			}
			if depth < 3 && r.Intn(3) == 0 {
				b.WriteString("a{")
				depth++
				continue
			}
			b.WriteString("b 7;\n")
		}
		b.WriteString(strings.Repeat("}", depth))
		compare(t, b.String())
	}
}

// Sources of any bytes, and of any runes that a source has.
func TestAnyBytes(t *testing.T) {
	r := rand.New(rand.NewSource(144))
	for range 30000 {
		b := make([]byte, r.Intn(40))
		r.Read(b)
		compare(t, string(b))
		for i := range b {
			b[i] = "ab1 \n{};;;#\"%\xff"[int(b[i])%14]
		}
		compare(t, string(b))
	}
	for b := range 256 {
		for _, s := range []string{"", "a", "a ", "a;", "a{", "a{b;", "#", "\"", "a 1 2 3 4 5 6 ", nested(4)} {
			compare(t, s+string([]byte{byte(b)}))
			compare(t, s+string([]byte{byte(b)})+";}")
		}
	}
	for range 40 {
		b := make([]byte, 39990+r.Intn(20))
		for i := range b {
			b[i] = "a {};\n"[r.Intn(6)]
		}
		compare(t, string(b))
		r.Read(b)
		compare(t, string(b))
	}
}

// spoil all that a tree has, and the room behind each list.
func spoil(l []api.Item) {
	for i := range l {
		spoil(l[i].Kids)
		for k := range l[i].Words {
			l[i].Words[k] = api.Tok{Kind: 99, Text: "gone"}
		}
		_ = append(l[i].Words, api.Tok{Kind: 98, Text: "behind"})
		_ = append(l[i].Kids, api.Item{Name: "behind"})
		l[i] = api.Item{Name: "gone"}
	}
}

// What is answered is the caller's: no two lists of it share anything, and no later answer does.
func TestAnswersAreTheCallers(t *testing.T) {
	const s = "a 1 2 3 b{c 4 5;d{e 6;f;}g 7;}h \"8\" 9;i{j;}k;"
	want, f := modelTree(s)
	if f != (api.Fault{}) {
		t.Fatal(f)
	}
	first, _ := tree.Parse(s)
	second, _ := tree.Parse(s)
	// What is put behind one list stands in no other one.
	for _, x := range []*api.Item{&first[0], &first[0].Kids[0], &first[0].Kids[1], &first[0].Kids[1].Kids[0], &first[1], &first[2], &first[3]} {
		_ = append(x.Words, word("1", 1, 1), word("2", 1, 1), word("3", 1, 1))
		_ = append(x.Kids, item("x", 1, 1), item("y", 1, 1), item("z", 1, 1))
		if !same(first, want) {
			t.Fatal(shownTree(first))
		}
	}
	first[0].Words[0].Text = "gone"
	first[0].Kids[1].Kids[0].Name = "gone"
	want[0].Words[0].Text = "gone"
	want[0].Kids[1].Kids[0].Name = "gone"
	if !same(first, want) {
		t.Error(shownTree(first))
	}
	spoil(first)
	want, _ = modelTree(s)
	if third, _ := tree.Parse(s); !same(second, want) || !same(third, want) {
		t.Error(shownTree(second), shownTree(third))
	}
}
