package compile_test

import (
	"math"
	"math/big"
	"slices"
	"strings"
	"testing"

	"firebell/api"
	"firebell/scan"
)

// The chapter's example, and the document's.
func TestExamples(t *testing.T) {
	wantConfig(t, "objective a { target 99.9%; rule r page { long 1h; short 5m; factor 14.4; } }",
		api.Config{Notify: plain(), Goals: []api.Goal{{Name: "a", Target: 999000, Grain: 60, Rules: []api.Rule{{Name: "r", Page: true, Long: 3600, Short: 300, Factor: 14400}}}}})
	wantConfig(t, "objective a { target 90%; grain 10s; rule r page { long 20s; short 10s; factor 1; } }",
		api.Config{Notify: plain(), Goals: []api.Goal{{Name: "a", Target: 900000, Grain: 10, Rules: []api.Rule{{Name: "r", Page: true, Long: 20, Short: 10, Factor: 1000}}}}})
}

// P16.1: no items at all, no notify, an empty one, and one that says what holds anyway.
func TestNothingSaid(t *testing.T) {
	for _, s := range []string{"", " \t\n", "# notify { room 8; }", "notify {}", "notify { # room 8;\n}", "notify { room 16; reserve 0; first 10s; cap 5m; repeat 0s; }"} {
		wantConfig(t, s, api.Config{Notify: plain()})
	}
	wantTree(t, nil, api.Config{Notify: plain()}, nil)
	wantTree(t, []api.Item{}, api.Config{Notify: plain()}, nil)
	wantTree(t, []api.Item{{Name: "notify", Block: true, Kids: []api.Item{}, Words: []api.Tok{}}}, api.Config{Notify: plain()}, nil)
	bare := api.Goal{Name: "o", Target: 1, Grain: 60, Rules: []api.Rule{{Name: "r", Long: 60, Short: 60, Factor: 1}}}
	wantConfig(t, "objective o { target 0.0001%; rule r ticket { long 1m; short 1m; factor 0.001; } }", api.Config{Notify: plain(), Goals: []api.Goal{bare}})
	wantConfig(t, "objective o { grain 60s; late 0s; target 0.0001%; rule r ticket { for 0s; long 1m; short 1m; keep 0s; factor 0.001; } } notify {}", api.Config{Notify: plain(), Goals: []api.Goal{bare}})
	// Each alone, the others are as they are.
	for s, n := range map[string]api.Notify{
		"room 1;": {Room: 1, First: 10, Cap: 300}, "reserve 16;": {Room: 16, Reserve: 16, First: 10, Cap: 300}, "first 5m;": {Room: 16, First: 300, Cap: 300},
		"cap 10s;": {Room: 16, First: 10, Cap: 10}, "repeat 30d;": {Room: 16, First: 10, Cap: 300, Repeat: 2592000},
	} {
		wantConfig(t, "notify { "+s+" }", api.Config{Notify: n})
	}
}

// All that can be said, of several goals, in order.
func TestAllSaid(t *testing.T) {
	wantConfig(t, `
objective web-1 {
	target 99.5%; grain 10s; late 1m; rolling 30d; calendar quarter;
	label team "core\n\u{1f600}"; label site ""; # no text
	rule slow ticket { long 6h; short 30m; factor 2; for 5m; keep 10m; }
	rule fast page { long 1h; short 5m; factor 14.4; }
}
notify { room 8; reserve 2; first 20s; cap 10m; repeat 4h; }
objective Жук { calendar month; rule web-1 page { factor 1.5; keep 1s; short 1m; long 1m; } target 50%; }
`, api.Config{
		Goals: []api.Goal{
			{Name: "web-1", Target: 995000, Grain: 10, Late: 60, Rolling: 2592000, Calendar: api.CalQuarter,
				Labels: []api.Label{{Name: "team", Text: "core\n😀"}, {Name: "site"}},
				Rules:  []api.Rule{{Name: "slow", Long: 21600, Short: 1800, Factor: 2000, For: 300, Keep: 600}, {Name: "fast", Page: true, Long: 3600, Short: 300, Factor: 14400}}},
			{Name: "Жук", Target: 500000, Grain: 60, Calendar: api.CalMonth, Rules: []api.Rule{{Name: "web-1", Page: true, Long: 60, Short: 60, Factor: 1500, Keep: 1}}},
		},
		Notify: api.Notify{Room: 8, Reserve: 2, First: 20, Cap: 600, Repeat: 14400},
	})
}

const (
	anObjective = "objective NAME { target 99%; rule r page { long 1h; short 5m; factor 1; } }"
	aLabel      = `label NAME "NAME";`
	aRule       = "rule NAME ticket { long 1h; short 5m; factor 1; }"
	bothWindows = "long 1m; short 1m; factor 1;"
)

// with all that an objective needs, and more behind it.
func with(more string) string {
	return "objective o { target 99%; rule o page { long 1h; short 5m; factor 1; } " + more + " }"
}

// named: an item of a form for each name.
func named(form string, names ...string) string {
	var b strings.Builder
	for _, s := range names {
		b.WriteString(strings.ReplaceAll(form, "NAME", s) + "\n")
	}
	return b.String()
}

// P16.1: up to as many as there may be, in their order, whatever their names are.
func TestMostOfEach(t *testing.T) {
	for _, names := range [][]string{nil, {"a"}, {"b", "a"}, {"c", "a", "b", "d"}, {"d", "c", "b", "a"}, {"é", "ж", "ω", "Z"}, {"a", "A", "a-a", "a_a"}, {"a", "aa", "a0", "a00"}, {"é", "e", "É", "ё"}, {strings.Repeat("ж", 24), strings.Repeat("ж", 23), "ж"}, {"a", "b", "c", "d", "e", "f"}, {"f", "b", "e", "a", "d", "c"}, {"target", "rule", "label", "notify", "objective", "o"}} {
		var goals, labels, rules []string
		for _, g := range wantGood(t, named(anObjective, names...)).Goals {
			goals = append(goals, g.Name)
		}
		if !slices.Equal(goals, names) {
			t.Error(goals, names)
		}
		if len(names) > 4 || len(names) == 0 {
			continue
		}
		g := wantGood(t, "objective o { target 99%;\n"+named(aLabel, names...)+named(aRule, names...)+"}").Goals[0]
		for i, l := range g.Labels {
			labels, rules = append(labels, l.Name), append(rules, g.Rules[i].Name)
			if l.Text != l.Name {
				t.Error(l)
			}
		}
		if !slices.Equal(labels, names) || !slices.Equal(rules, names) {
			t.Error(labels, rules, names)
		}
	}
	full := "{ target 99%;\n" + named(aLabel, "w", "x", "y", "z") + named(aRule, "z", "y", "x", "w") + "}"
	c := wantGood(t, named("objective NAME "+full, "a", "b", "c", "d", "e", "f"))
	for _, g := range c.Goals {
		if len(g.Labels) != 4 || len(g.Rules) != 4 || g.Labels[0].Name != "w" || g.Rules[0].Name != "z" {
			t.Error(g)
		}
	}
	if len(c.Goals) != 6 {
		t.Error(c)
	}
}

// P16.1: one name may be an objective's, a label's and a rule's, and rules of unlike objectives may have one; items' names are names, too.
func TestOneName(t *testing.T) {
	wantConfig(t, `objective a { label a "é\"\\"; target 99%; rule a ticket { factor 1; long 1m; short 1m; } }`, api.Config{Notify: plain(), Goals: []api.Goal{{
		Name: "a", Target: 990000, Grain: 60, Labels: []api.Label{{Name: "a", Text: `é"\`}}, Rules: []api.Rule{{Name: "a", Long: 60, Short: 60, Factor: 1000}}}}})
	for _, s := range []string{"target", "objective", "page", "ticket", "month", "rule", "label", "foo"} {
		c := wantGood(t, named(`objective NAME { rule NAME page { `+bothWindows+` } label NAME "NAME"; target 1%; calendar month; } objective b { target 1%; rule NAME ticket { `+bothWindows+` } label NAME ""; }`, s))
		if len(c.Goals) != 2 || !c.Goals[0].Rules[0].Page || c.Goals[1].Rules[0].Page || c.Goals[1].Rules[0].Name != s || c.Goals[1].Labels[0] != (api.Label{Name: s}) {
			t.Error(c)
		}
	}
	long := strings.Repeat("é", 120)
	if g := wantGood(t, with(`label a "`+long+`"; label b "";`)).Goals[0]; !slices.Equal(g.Labels, []api.Label{{Name: "a", Text: long}, {Name: "b"}}) {
		t.Error(g)
	}
}

func TestCalendars(t *testing.T) {
	for s, kind := range map[string]int{"": api.CalNone, "calendar month;": api.CalMonth, "calendar quarter;": api.CalQuarter} {
		if g := wantGood(t, with(s)).Goals[0]; g.Calendar != kind {
			t.Error(s, g)
		}
	}
	for _, s := range []string{"", "month month", "month quarter", `"month"`, "Month", "MONTH", "months", "mont", "none", "year", "day", "Quarter", "quarters", "page", "ticket", "calendar", "1", "1.5", "1%", "1d", "30d"} {
		wantFaults(t, with("<1 Form>calendar "+s+";"))
		wantFaults(t, with("<1 Form>calendar "+s+"; calendar month;"))
	}
	for _, s := range []string{"month", "quarter", "none", "", "1"} {
		wantFaults(t, with("<1 Form>calendar "+s+"{}"))
	}
	for _, s := range []string{"page", "ticket"} {
		if r := wantGood(t, "objective a { target 1%; rule r "+s+" { "+bothWindows+" } }").Goals[0].Rules[0]; r.Page != (s == "page") {
			t.Error(s, r)
		}
	}
	for _, s := range []string{"", "Page", "pages", "pag", "Ticket", "tickets", "r", "month", "rule", `"page"`, "1", "1.5", "1%", "1d", "page ticket", "page page"} {
		wantFaults(t, with("<1 Form>rule r "+s+" { "+bothWindows+" }"))
	}
}

// numberCase is an item with a number: where it stands, what its number becomes, and how numbers of the item are written.
type numberCase struct {
	source string // NUMBER stands for it
	item   string
	got    func(c api.Config) uint64
	kind   int
}

func numberCases() []numberCase {
	goal := func(get func(g api.Goal) uint64) func(api.Config) uint64 {
		return func(c api.Config) uint64 { return get(c.Goals[0]) }
	}
	rule := func(get func(r api.Rule) uint64) func(api.Config) uint64 {
		return func(c api.Config) uint64 { return get(c.Goals[0].Rules[0]) }
	}
	const days = "rule r page { long 1d; short 1d; factor 1; } "
	return []numberCase{
		{"objective o { target NUMBER; rule r page { " + bothWindows + " } }", "target", goal(func(g api.Goal) uint64 { return uint64(g.Target) }), api.TokShare},
		// Windows are as long as the grain, whatever it is.
		{"objective o { target 1%; grain NUMBER; rule r page { long NUMBER; short NUMBER; factor 1; } rolling NUMBER; }", "grain", goal(func(g api.Goal) uint64 { return uint64(g.Grain) }), api.TokSpan},
		{"objective o { target 1%; " + days + "late NUMBER; }", "late", goal(func(g api.Goal) uint64 { return uint64(g.Late) }), api.TokSpan},
		{"objective o { target 1%; grain 1s; " + days + "rolling NUMBER; }", "rolling", goal(func(g api.Goal) uint64 { return uint64(g.Rolling) }), api.TokSpan},
		{"objective o { target 1%; grain 1s; rule r page { long NUMBER; short 1s; factor 1; } }", "long", rule(func(r api.Rule) uint64 { return uint64(r.Long) }), api.TokSpan},
		{"objective o { target 1%; grain 1s; rule r page { long 400d; short NUMBER; factor 1; } }", "short", rule(func(r api.Rule) uint64 { return uint64(r.Short) }), api.TokSpan},
		{"objective o { target 1%; rule r page { factor NUMBER; long 1d; short 1d; } }", "factor", rule(func(r api.Rule) uint64 { return r.Factor }), api.TokFactor},
		{"objective o { target 1%; rule r page { for NUMBER; " + bothWindows + " } }", "for", rule(func(r api.Rule) uint64 { return uint64(r.For) }), api.TokSpan},
		{"objective o { target 1%; rule r page { " + bothWindows + " keep NUMBER; } }", "keep", rule(func(r api.Rule) uint64 { return uint64(r.Keep) }), api.TokSpan},
		{"notify { room NUMBER; }", "room", func(c api.Config) uint64 { return uint64(c.Notify.Room) }, api.TokCount},
		{"notify { room 64; reserve NUMBER; }", "reserve", func(c api.Config) uint64 { return uint64(c.Notify.Reserve) }, api.TokCount},
		{"notify { first NUMBER; cap 7d; }", "first", func(c api.Config) uint64 { return uint64(c.Notify.First) }, api.TokSpan},
		{"notify { first 1s; cap NUMBER; }", "cap", func(c api.Config) uint64 { return uint64(c.Notify.Cap) }, api.TokSpan},
		{"notify { repeat NUMBER; }", "repeat", func(c api.Config) uint64 { return uint64(c.Notify.Repeat) }, api.TokSpan},
	}
}

// wantRange: the first fault is at the number's item.
func wantRange(t *testing.T, s, item string) {
	t.Helper()
	_, at := marked(strings.Replace(s, item, "<1 Range>"+item, 1))
	c, faults := model(parsed(t, s))
	if len(faults) == 0 || faults[0] != at[0] {
		t.Errorf("%s\nhas to the model %v", s, faults)
	}
	wantRead(t, s, c, faults)
}

// P16.1: each number at its least and at its most, and beyond them.
func TestNumbers(t *testing.T) {
	for _, n := range numberCases() {
		write := func(v uint64) string {
			return strings.ReplaceAll(n.source, "NUMBER", scan.Print(api.Tok{Kind: n.kind, N: v}))
		}
		least, most := uint64(limits[n.item][0]), uint64(limits[n.item][1])
		for _, v := range []uint64{least, least + 1, least + 59, 7, 13, 60, most / 2, most - 1, most} {
			if v < least || v > most {
				continue
			}
			if got := n.got(wantGood(t, write(v))); got != v {
				t.Errorf("%s: %d", write(v), got)
			}
		}
		greatest := map[int]uint64{api.TokShare: 1000000, api.TokSpan: api.MaxTick, api.TokFactor: math.MaxUint64, api.TokCount: math.MaxUint64}[n.kind]
		for _, v := range []uint64{most + 1, most + 2, 2 * most, 1 << 31, 1<<32 + 1, 1<<32 + most, 1 << 63, 1<<63 + 1, math.MaxUint64, greatest} {
			if v <= greatest {
				wantRange(t, write(v), n.item)
			}
		}
		if least > 0 {
			wantRange(t, write(least-1), n.item)
		}
	}
}

// P16.1: a count of a factor is a thousand times as much, and never goes round.
func TestFactors(t *testing.T) {
	source := func(s string) string {
		return "objective o { target 1%; rule r page { factor " + s + "; long 1d; short 1d; } }"
	}
	for s, v := range map[string]uint64{"1": 1000, "2": 2000, "14": 14000, "999": 999000, "1000": 1000000, "0.001": 1, "0.01": 10, "0.1": 100, "0.002": 2, "1.0": 1000, "1.000": 1000, "14.4": 14400, "999.999": 999999, "1000.0": 1000000} {
		if got := wantGood(t, source(s)).Goals[0].Rules[0].Factor; got != v {
			t.Error(s, got)
		}
	}
	for _, s := range []string{"0", "0.0", "0.000", "1001", "1000.001", "1000000", "1000001", "18446744073709551615", "18446744073709551.615", "18446744073709551", "18446744073709552", "18446744073709553", "9223372036854775808", "4611686018427387904", "2305843009213693952", "2305843009213693953"} {
		wantRange(t, source(s), "factor")
	}
	// Counts whose thousandfold would be one of those that may be, if it went round.
	for k := range uint64(1000) {
		round := new(big.Int).Lsh(new(big.Int).SetUint64(k), 64)
		round.Div(round.Add(round, big.NewInt(999)), big.NewInt(1000))
		for range 3 {
			if round.Cmp(big.NewInt(1000)) > 0 {
				wantRange(t, source(round.String()), "factor")
			}
			round.Add(round, big.NewInt(1))
		}
	}
	for _, s := range []string{`"1"`, "one", "1%", "1s", "", "1 1", "1.0 1", "1.0 1.0"} {
		wantFaults(t, "objective o { target 1%; <2 Form>rule r page { <1 Form>factor "+s+"; long 1d; short 1d; } }")
	}
}
