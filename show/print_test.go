package show_test

import (
	"reflect"
	"slices"
	"strings"
	"testing"

	"firebell/api"
	"firebell/compile"
	"firebell/layout"
	"firebell/scan"
	"firebell/show"
)

// wantPrint: a right config is printed just so.
func wantPrint(t *testing.T, c api.Config, want string) {
	t.Helper()
	if s, code := show.Print(c); code != api.Fine || s != want {
		t.Errorf("%v\n%s\nnot\n%s", code, s, want)
	}
	wantConfig(t, c, true)
}

// The chapter's example: seven lines.
func TestExample(t *testing.T) {
	wantPrint(t, aConfig(), `notify {
  room 16;
  reserve 0;
  first 10s;
  cap 5m;
  repeat 0s;
}
`)
	s, _ := show.Print(aConfig())
	if strings.Count(s, "\n") != 7 {
		t.Error(s)
	}
	wantPrint(t, api.Config{Notify: api.Notify{Room: 64, Reserve: 64, First: 86400, Cap: 604800, Repeat: 2592000}}, `notify {
  room 64;
  reserve 64;
  first 1d;
  cap 1w;
  repeat 4w2d;
}
`)
}

// P17.2: all that a config can say, line by line.
func TestPrintOfAll(t *testing.T) {
	wantPrint(t, api.Config{
		Goals: []api.Goal{
			{Name: "web", Target: 999000, Grain: 10, Late: 86400, Rolling: 2592000, Calendar: api.CalQuarter,
				Labels: []api.Label{{Name: "web", Text: "a\"b\\\n\té\x7f"}, {Name: "site"}},
				Rules:  []api.Rule{{Name: "web", Page: true, Long: 3600, Short: 300, Factor: 14400, For: 604800, Keep: 90}, {Name: "a", Long: 10, Short: 10, Factor: 1000}}},
			{Name: "Жук", Target: 1, Grain: 1, Rules: []api.Rule{{Name: "slow", Long: 34560000, Short: 34560000, Factor: 1}}},
			{Name: "a-1", Target: 999999, Grain: 86400, Calendar: api.CalMonth, Rules: []api.Rule{{Name: "z", Page: true, Long: 172800, Short: 86400, Factor: 1000000, Keep: 1}}},
		},
		Notify: api.Notify{Room: 4, Reserve: 1, First: 5, Cap: 90, Repeat: 14400},
	}, `objective web {
  target 99.9%;
  grain 10s;
  late 1d;
  rolling 4w2d;
  calendar quarter;
  label web "a\"b\\\n\té\u{7f}";
  label site "";
  rule web page {
    long 1h;
    short 5m;
    factor 14.4;
    for 1w;
    keep 1m30s;
  }
  rule a ticket {
    long 10s;
    short 10s;
    factor 1.0;
    for 0s;
    keep 0s;
  }
}
objective Жук {
  target 0.0001%;
  grain 1s;
  late 0s;
  rule slow ticket {
    long 57w1d;
    short 57w1d;
    factor 0.001;
    for 0s;
    keep 0s;
  }
}
objective a-1 {
  target 99.9999%;
  grain 1d;
  late 0s;
  calendar month;
  rule z page {
    long 2d;
    short 1d;
    factor 1000.0;
    for 0s;
    keep 1s;
  }
}
notify {
  room 4;
  reserve 1;
  first 5s;
  cap 1m30s;
  repeat 4h;
}
`)
}

func word(kind int, n uint64) api.Tok { return api.Tok{Kind: kind, N: n} }

func named(s string) api.Tok { return api.Tok{Kind: api.TokName, Text: s} }

func item(name string, words ...api.Tok) api.Item { return api.Item{Name: name, Words: words} }

func block(head api.Item, kids ...api.Item) api.Item {
	head.Block, head.Kids = true, kids
	return head
}

func ticks(name string, n uint64) api.Item { return item(name, word(api.TokSpan, n)) }

// P17.2: the items, with their kinds of words, and without places.
func TestItems(t *testing.T) {
	c := api.Config{
		Goals: []api.Goal{
			{Name: "g", Target: 500000, Grain: 30, Late: 7, Rolling: 90, Calendar: api.CalMonth, Labels: []api.Label{{Name: "l", Text: "é"}, {Name: "k"}},
				Rules: []api.Rule{{Name: "r", Page: true, Long: 120, Short: 60, Factor: 2000, For: 5, Keep: 6}}},
			{Name: "h", Target: 1, Grain: 1, Calendar: api.CalQuarter, Rules: []api.Rule{{Name: "r", Long: 1, Short: 1, Factor: 1001}}},
		},
		Notify: api.Notify{Room: 3, Reserve: 2, First: 8, Cap: 9, Repeat: 10},
	}
	want := []api.Item{
		block(item("objective", named("g")),
			item("target", word(api.TokShare, 500000)), ticks("grain", 30), ticks("late", 7), ticks("rolling", 90), item("calendar", named("month")),
			item("label", named("l"), api.Tok{Kind: api.TokText, Text: "é"}), item("label", named("k"), api.Tok{Kind: api.TokText}),
			block(item("rule", named("r"), named("page")), ticks("long", 120), ticks("short", 60), item("factor", word(api.TokFactor, 2000)), ticks("for", 5), ticks("keep", 6))),
		block(item("objective", named("h")),
			item("target", word(api.TokShare, 1)), ticks("grain", 1), ticks("late", 0), item("calendar", named("quarter")),
			block(item("rule", named("r"), named("ticket")), ticks("long", 1), ticks("short", 1), item("factor", word(api.TokFactor, 1001)), ticks("for", 0), ticks("keep", 0))),
		block(item("notify"), item("room", word(api.TokCount, 3)), item("reserve", word(api.TokCount, 2)), ticks("first", 8), ticks("cap", 9), ticks("repeat", 10)),
	}
	for len(c.Goals) > 0 {
		l, code := show.Items(c)
		// To layout.Bare no list is nil, so lists without items are alike.
		if code != api.Fine || !placeless(l) || !reflect.DeepEqual(layout.Bare(l), layout.Bare(want)) {
			t.Errorf("%v %+v", code, l)
		}
		wantConfig(t, c, true)
		c.Goals, want = c.Goals[1:], want[1:]
	}
	if l, code := show.Items(c); code != api.Fine || !layout.Same(l, want) {
		t.Errorf("%v %+v", code, l)
	}
}

// P17.2: a factor is written as one, also if it is a whole number.
func TestFactors(t *testing.T) {
	for n, s := range map[uint64]string{1: "0.001", 2: "0.002", 10: "0.01", 100: "0.1", 999: "0.999", 1000: "1.0", 1001: "1.001", 1010: "1.01", 1100: "1.1", 2000: "2.0", 10000: "10.0", 14400: "14.4", 100000: "100.0", 999000: "999.0", 999999: "999.999", 1000000: "1000.0"} {
		r := aRule("r")
		r.Factor = n
		printed, _ := show.Print(aConfig(ruled(60, r)))
		if !strings.Contains(printed, "    factor "+s+";\n") {
			t.Error(n, printed)
		}
		l, _ := show.Items(aConfig(ruled(60, r)))
		rule := l[0].Kids[3]
		if got := rule.Kids[2]; got.Name != "factor" || !slices.Equal(got.Words, []api.Tok{{Kind: api.TokFactor, N: n}}) {
			t.Error(n, got)
		}
		wantRule(t, r, 60, true)
	}
}

// P17.2: rolling and calendar stand just where there are such.
func TestRollingAndCalendar(t *testing.T) {
	lines := map[int]string{api.CalNone: "", api.CalMonth: "  calendar month;\n", api.CalQuarter: "  calendar quarter;\n"}
	for kind, calendar := range lines {
		for n, rolling := range map[int64]string{0: "", 60: "  rolling 1m;\n", 34560000: "  rolling 57w1d;\n"} {
			g := aGoal("g")
			g.Calendar, g.Rolling = kind, n
			s, _ := show.Print(aConfig(g))
			if !strings.HasPrefix(s, "objective g {\n  target 99.9%;\n  grain 1m;\n  late 0s;\n"+rolling+calendar+"  rule r page {\n") {
				t.Error(kind, n, s)
			}
			wantGoal(t, g, true)
		}
	}
}

// greatest right config: as many of each as may be, and names, texts and numbers whose print is the longest.
func greatest() api.Config {
	name := func(i int) string { return strings.Repeat("ж", 23) + string(rune('ж'+i)) }
	c := api.Config{Notify: api.Notify{Room: 64, Reserve: 64, First: 86399, Cap: 6*86400 + 86399, Repeat: 3*604800 + 6*86400 + 86399}}
	for i := range 6 {
		// The grain is short, for windows of the longest print.
		g := api.Goal{Name: name(i), Target: 111111, Grain: 1, Late: 86399, Rolling: 57*604800 - 1, Calendar: api.CalQuarter}
		for k := range 4 {
			g.Labels = append(g.Labels, api.Label{Name: name(k), Text: strings.Repeat("\x7f", 120)})
			g.Rules = append(g.Rules, api.Rule{Name: name(k), Long: 57*604800 - 1, Short: 57*604800 - 1, Factor: 999999, For: 604799, Keep: 604799})
		}
		c.Goals = append(c.Goals, g)
	}
	return c
}

// P17.3: the greatest right config isn't too long for a source, and has no more items than a tree may have.
func TestGreatest(t *testing.T) {
	c := greatest()
	wantConfig(t, c, true)
	for _, text := range []string{strings.Repeat("😀", 120), strings.Repeat("\"", 120), strings.Repeat("\n", 120), strings.Repeat("\x1f", 120), strings.Repeat("é", 120)} {
		other := copied(c)
		for _, g := range other.Goals {
			for i := range g.Labels {
				g.Labels[i].Text = text
			}
		}
		wantConfig(t, other, true)
	}
	l, _ := show.Items(c)
	if n := layout.Count(l); n != 6*(1+5+4+4*6)+6 || layout.Depth(l) != 3 {
		t.Error(n, layout.Depth(l))
	}
	s, _ := show.Print(c)
	if n := len(s); n > api.MaxSource || n < 20000 {
		t.Error(n)
	}
	if _, f := scan.Tokens(s); f != (api.Fault{}) {
		t.Error(f)
	}
	// With one more of anything it is no right one.
	more := copied(c)
	more.Goals = append(more.Goals, aGoal("a"))
	wantConfig(t, more, false)
	more = copied(c)
	more.Goals[5].Rules = append(more.Goals[5].Rules, aRule("a"))
	wantConfig(t, more, false)
	more = copied(c)
	more.Goals[5].Labels = append(more.Goals[5].Labels, api.Label{Name: "a"})
	wantConfig(t, more, false)
	more = copied(c)
	more.Goals[5].Labels[3].Text += "a"
	wantConfig(t, more, false)
}

// P17.3: what was compiled is right, and is printed, compiled and printed again as it was.
func TestCompiledIsRight(t *testing.T) {
	for _, s := range []string{
		"", "# nothing", "notify {}", "notify { reserve 16; cap 10s; }",
		"objective a { target 99.9%; rule r page { long 1h; short 5m; factor 14.4; } }",
		"objective a { target 90%; grain 10s; rule r page { long 20s; short 10s; factor 1; } }",
		"notify { room 1; reserve 1; first 1s; cap 1s; } objective a { rule r ticket { factor 1000; keep 168h; short 400d; long 400d; for 7d; } grain 24h; label b \"\\u{7f}\\u{41}\"; target 0.0001%; rolling 57w1d; }",
		"objective b { target 1%; rule a page { long 90m; short 60s; factor 1.500; } calendar quarter; }\nobjective a { target 1%; late 86400s; calendar month; rule b ticket { long 60s; short 60s; factor 0.5; } }",
	} {
		c, f := compile.Read(s)
		if len(f) > 0 {
			t.Fatal(s, f)
		}
		wantConfig(t, c, true)
		again(t, c)
	}
}

// again printed, and compiled, and so on, it is as it was.
func again(t *testing.T, c api.Config) {
	t.Helper()
	first, code := show.Print(c)
	d, f := compile.Read(first)
	second, otherCode := show.Print(d)
	if code != api.Fine || otherCode != api.Fine || len(f) > 0 || first != second || !sameConfig(c, d) {
		t.Fatalf("%v %v %v\n%s\nis printed again as\n%s", code, otherCode, f, first, second)
	}
}

// What is told shares no memory with what was handed in, nor with another answer, and no two lists of it share any.
func TestItemsAreTheCallers(t *testing.T) {
	c := greatest()
	kept := copied(c)
	got, _ := show.Items(c)
	other, _ := show.Items(c)
	want := layout.Bare(got)
	widen(got)
	if !layout.Same(got, want) {
		t.Fatal("with each other")
	}
	spoil(got)
	if !layout.Same(other, want) {
		t.Fatal("with another answer")
	}
	if !reflect.DeepEqual(c, kept) {
		t.Fatal("with what was handed in")
	}
	for i := range c.Goals {
		clear(c.Goals[i].Labels)
		clear(c.Goals[i].Rules)
	}
	clear(c.Goals)
	if !layout.Same(other, want) {
		t.Fatal("with what was handed in")
	}
}

// widen each list by something behind it.
func widen(l []api.Item) {
	_ = append(l, api.Item{Name: "behind"}, api.Item{Name: "behind"})
	for _, x := range l {
		_ = append(x.Words, named("behind"), named("behind"))
		widen(x.Kids)
	}
}

// spoil each item and word.
func spoil(l []api.Item) {
	for i := range l {
		clear(l[i].Words)
		spoil(l[i].Kids)
		l[i] = api.Item{}
	}
}
