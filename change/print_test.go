package change_test

import (
	"math"
	"slices"
	"strings"
	"testing"

	"firebell/api"
	"firebell/change"
)

func turn(kind int, goal, rule string) api.Turn { return api.Turn{Goal: goal, Rule: rule, Kind: kind} }

// P18.2: the kind of the first turn of that goal and that rule.
func TestFind(t *testing.T) {
	l := []api.Turn{turn(2, "a", ""), turn(1, "a", "r"), turn(3, "b", ""), turn(4, "b", "r"), turn(3, "b", "s"), turn(1, "a", ""), turn(4, "a", "r"), turn(9, "c", "r"), turn(0, "d", ""), turn(1, "d", "")}
	for _, x := range []struct {
		goal, rule string
		want       int
	}{
		{"a", "", 2}, {"a", "r", 1}, {"b", "", 3}, {"b", "r", 4}, {"b", "s", 3}, {"c", "r", 9}, {"d", "", 0},
		{"a", "s", 0}, {"c", "", 0}, {"c", "s", 0}, {"e", "", 0}, {"e", "r", 0}, {"r", "", 0}, {"r", "a", 0},
		{"", "", 0}, {"", "r", 0}, {"A", "", 0}, {"a", "R", 0}, {"a ", "", 0}, {"a r", "", 0}, {"\xff", "", 0},
	} {
		if n := change.Find(l, x.goal, x.rule); n != x.want {
			t.Errorf("%q %q: %d, not %d", x.goal, x.rule, n, x.want)
		}
		if n := change.Find(nil, x.goal, x.rule); n != 0 {
			t.Errorf("%q %q: %d of no turns", x.goal, x.rule, n)
		}
	}
	if n := change.Find([]api.Turn{{Goal: "a", Rule: "r", Kind: 1}, {Rule: "r", Kind: 2}, {Kind: 3}}, "", ""); n != 3 {
		t.Error(n)
	}
	if n := change.Find([]api.Turn{{Goal: "a", Rule: "r", Kind: -7}}, "a", "r"); n != -7 {
		t.Error(n)
	}
}

// P18.2: in a plan.
func TestFindInPlan(t *testing.T) {
	l, _ := change.Plan(aConfig(two("a"), two("b")), aConfig(two("b"), two("c")))
	for _, x := range []struct {
		goal, rule string
		want       int
	}{{"a", "", 4}, {"a", "s", 4}, {"b", "", 2}, {"b", "r", 2}, {"c", "", 1}, {"c", "s", 1}, {"c", "t", 0}, {"d", "", 0}, {"", "r", 0}} {
		if n := change.Find(l, x.goal, x.rule); n != x.want {
			t.Errorf("%q %q: %d, not %d", x.goal, x.rule, n, x.want)
		}
	}
}

// P18.3: the lines of right turns, of each kind, with and without a rule; they are read.
func TestPrint(t *testing.T) {
	l := []api.Turn{turn(1, "a", ""), turn(2, "a", "r"), turn(3, "b-1", ""), turn(4, "Жук", "é"), turn(4, "b", ""), turn(3, "b", "r"), turn(2, "c", ""), turn(1, "c_2", "r-s")}
	const want = "comes a\nstays a r\nturns b-1\ngoes Жук é\ngoes b\nturns b r\nstays c\ncomes c_2 r-s\n"
	s, code := change.Print(l)
	if s != want || code != api.Fine {
		t.Errorf("%q %v", s, code)
	}
	wantRead(t, want, l...)
	for i := range l {
		wantTurns(t, l[i:], true)
		wantTurns(t, l[:i], true)
	}
}

// P18.3: no turns, and no text.
func TestEmpty(t *testing.T) {
	wantTurns(t, nil, true)
	wantTurns(t, []api.Turn{}, true)
	wantRead(t, "")
	if s, code := change.Print(nil); s != "" || code != api.Fine {
		t.Errorf("%q %v", s, code)
	}
	if change.Tally(nil) != [4]int{} {
		t.Error(change.Tally(nil))
	}
}

// P18.3: names at their ends, and names that are the four words.
func TestNames(t *testing.T) {
	most := strings.Repeat("ω", 24)
	for _, name := range []string{"a", "Z", "é", "Ͱ", "Ӿ", "ω", most, "a-b_c9", "comes", "stays", "turns", "goes", "Comes", strings.Repeat("a", 24), "a" + strings.Repeat("-", 22) + "9"} {
		for kind := 1; kind <= 4; kind++ {
			word := []string{"comes", "stays", "turns", "goes"}[kind-1]
			wantRead(t, word+" "+name+"\n", turn(kind, name, ""))
			wantRead(t, word+" "+name+" r\n", turn(kind, name, "r"))
			wantRead(t, word+" g "+name+"\n", turn(kind, "g", name))
			wantRead(t, word+" "+name+" "+name+"\n"+word+" "+name+"\n", turn(kind, name, name), turn(kind, name, ""))
		}
	}
	wantRead(t, "comes comes comes\nturns turns turns\ngoes goes goes\n", turn(1, "comes", "comes"), turn(3, "turns", "turns"), turn(4, "goes", "goes"))
}

// wrongNames are none; but the empty one may be a rule's.
func wrongNames() []string {
	return []string{"1", "-", "_", "a-", "a_", "-a", "a b", " a", "a ", " ", "a\n", "\n", "a\t", "\r", "a\r", "a/b", "\xff", "a\xff", "a\xffb", "\x00", "×", "÷", "ɐ", "日", strings.Repeat("ω", 25), strings.Repeat("a", 10000), "a\u00a0b", "\xed\xa0\x80"}
}

// P18.3: Form, and no text, if one turn isn't right, wherever it is.
func TestWrongTurns(t *testing.T) {
	var wrong []api.Turn
	for _, kind := range []int{0, 5, 6, -1, -4, 1 << 32, 1<<32 + 1, math.MinInt, math.MinInt + 1, math.MaxInt} {
		wrong = append(wrong, turn(kind, "a", ""), turn(kind, "a", "r"), turn(kind, "", ""))
	}
	for kind := 1; kind <= 4; kind++ {
		wrong = append(wrong, turn(kind, "", ""), turn(kind, "", "r"))
		for _, name := range wrongNames() {
			wrong = append(wrong, turn(kind, name, ""), turn(kind, name, "r"), turn(kind, "a", name), turn(kind, "", name))
		}
	}
	right := []api.Turn{turn(1, "a", ""), turn(2, "a", "r"), turn(3, "b", ""), turn(4, "b", "r")}
	for _, x := range wrong {
		wantTurns(t, []api.Turn{x}, false)
		for i := range len(right) + 1 {
			wantTurns(t, slices.Insert(slices.Clone(right), i, x), false)
		}
	}
	many := slices.Repeat(right, 2500)
	wantPrinted := func(l []api.Turn, code api.Code, s string) {
		if got, c := change.Print(l); c != code || got != s {
			t.Error(c, len(got))
		}
	}
	wantPrinted(many, api.Fine, lines(many))
	wantPrinted(append(many, turn(5, "a", "")), api.Form, "")
	wantPrinted(append(many, turn(4, "a", "1")), api.Form, "")
	if l, code := change.Read(lines(many)); code != api.Fine || !slices.Equal(l, many) {
		t.Error(len(l), code)
	}
	if l, code := change.Read(lines(many) + "comes\n"); code != api.Word || len(l) > 0 {
		t.Error(len(l), code)
	}
}

// P18.3: Word of texts that are none, alone and among right lines.
func TestWrongTexts(t *testing.T) {
	for _, s := range []string{
		"\n", "\n\n", " ", " \n", "\t\n", "\r\n", "\x00", "\xff", "\xff\n",
		"comes", "comes\n", "comes ", "comes \n", "comes  \n", "comes a", "comes a r", "comesa\n", "comes\ta\n", "comes a\tr\n",
		"come a\n", "comess a\n", "Comes a\n", "COMES a\n", "cOmes a r\n", "goes, a\n", "gone a\n", "none a\n", "1 a\n", "a\n", "a r\n", "a comes\n", "cómes a\n",
		"comes  a\n", "comes a  r\n", "comes a \n", "comes a r \n", " comes a\n", "  comes a r\n", "comes a  \n", "comes\u00a0a\n",
		"comes a\r\n", "comes a r\r\n", "comes a\r", "comes a\n\n", "comes a r\n\n", "\ncomes a\n", "comes a\n ", "comes a\n\n\n", "comes a\x00\n",
		"comes a b c\n", "comes a b c d\n", "comes a b  \n", "comes a b comes\n", "comes a comes b\n", "comes \na\n", "comes a\n r\n", "comes\na\n",
		"comes a\xff\n", "comes \xff\n", "comes a \xff\n", "\xffcomes a\n", "comes a\xff", "comes a r\xed\xa0\x80\n",
		"comes 1\n", "comes a 1\n", "comes - r\n", "comes a-\n", "comes a r_\n", "comes a/r\n", "comes a,\n", "comes " + strings.Repeat("ω", 25) + "\n", "comes a " + strings.Repeat("a", 25) + "\n",
		strings.Repeat("a", 10000), strings.Repeat("comes ", 10000), strings.Repeat("\n", 10000), strings.Repeat("comes a\n", 10000) + "comes a", strings.Repeat(" ", 10000) + "\n",
	} {
		wantNoRead(t, s)
	}
	for _, word := range []string{"comes", "stays", "turns", "goes"} {
		for i := range word {
			wantNoRead(t, word[:i]+" a\n")
			wantNoRead(t, word[:i]+strings.ToUpper(word[i:])+" a r\n")
			wantNoRead(t, word[:i]+"x"+word[i+1:]+" a r\n")
			wantNoRead(t, word[:i]+" "+word[i:]+" a r\n")
		}
		for _, name := range wrongNames() {
			if !strings.Contains(name, " ") && !strings.Contains(name, "\n") {
				wantNoRead(t, word+" "+name+"\n")
				wantNoRead(t, word+" a "+name+"\n")
				wantNoRead(t, word+" "+name+" r\n")
			}
		}
	}
}

// P18.3: how many of each kind; others don't count.
func TestTally(t *testing.T) {
	wantTally := func(want [4]int, kinds ...int) {
		t.Helper()
		var l []api.Turn
		for _, k := range kinds {
			l = append(l, turn(k, "a", ""))
		}
		if n := change.Tally(l); n != want {
			t.Errorf("%v: %v, not %v", kinds, n, want)
		}
	}
	wantTally([4]int{})
	wantTally([4]int{1}, 1)
	wantTally([4]int{0, 1}, 2)
	wantTally([4]int{0, 0, 1}, 3)
	wantTally([4]int{0, 0, 0, 1}, 4)
	wantTally([4]int{1, 1, 1, 1}, 4, 3, 2, 1)
	wantTally([4]int{3, 1, 0, 2}, 1, 4, 1, 2, 4, 1)
	wantTally([4]int{}, 0, 5, -1, 9, math.MinInt, math.MaxInt, 1<<32+1, 1<<32+4, math.MinInt+1, -4)
	wantTally([4]int{1, 0, 0, 2}, 0, 1, 5, 4, -1, 4, 9)
	// Names play no part.
	if n := change.Tally([]api.Turn{{Kind: 1}, {Goal: "1", Rule: "\xff", Kind: 4}, {Kind: 0}}); n != [4]int{1, 0, 0, 1} {
		t.Error(n)
	}
}

// P18.3 of what is read: it is the caller's.
func TestReadIsTheCallers(t *testing.T) {
	const s = "comes a\nstays a r\n"
	first, _ := change.Read(s)
	second, _ := change.Read(s)
	first[0], first[1] = api.Turn{}, api.Turn{}
	if !slices.Equal(second, []api.Turn{turn(1, "a", ""), turn(2, "a", "r")}) {
		t.Error(second)
	}
	wantRead(t, s, second...)
}
