package show_test

import (
	"math"
	"strings"
	"testing"

	"firebell/api"
	"firebell/show"
)

// P17.1: what is zero isn't right.
func TestZero(t *testing.T) {
	wantConfig(t, api.Config{}, false)
	wantConfig(t, api.Config{Goals: []api.Goal{{}}}, false)
	wantConfig(t, api.Config{Goals: []api.Goal{aGoal("a")}}, false)
	wantGoal(t, api.Goal{}, false)
	wantGoal(t, ruled(60, api.Rule{}), false)
	wantLabel(t, api.Label{}, false)
	for _, grain := range []int64{math.MinInt64, -1, 0, 1, 60, math.MaxInt64} {
		wantRule(t, api.Rule{}, grain, false)
	}
}

// wantEnds: a number is right from its least to its most, and beyond them isn't, up to the ends of its type.
func wantEnds[N int | int64 | uint32 | uint64](t *testing.T, least, most N, ends [2]N, want func(n N, right bool)) {
	t.Helper()
	for _, n := range []N{least, least + 1, least + (most-least)/2, most - 1, most} {
		want(n, true)
	}
	for _, n := range []N{least - 1, most + 1, most + 2, 2*most + 1, ends[0], ends[0] + 1, ends[1], ends[1] - 1} {
		if n < least || n > most {
			want(n, false)
		}
	}
}

var (
	endsOfInt64  = [2]int64{math.MinInt64, math.MaxInt64}
	endsOfInt    = [2]int{math.MinInt, math.MaxInt}
	endsOfUint32 = [2]uint32{0, math.MaxUint32}
	endsOfUint64 = [2]uint64{0, math.MaxUint64}
)

// P17.1: each number of a rule.
func TestNumbersOfRules(t *testing.T) {
	rule := func(set func(r *api.Rule, n int64)) func(int64, bool) {
		return func(n int64, right bool) {
			r := api.Rule{Name: "r", Long: 1, Short: 1, Factor: 1}
			set(&r, n)
			wantRule(t, r, 1, right)
		}
	}
	wantEnds(t, 1, 34560000, endsOfInt64, rule(func(r *api.Rule, n int64) { r.Long = n }))
	wantEnds(t, 1, 34560000, endsOfInt64, rule(func(r *api.Rule, n int64) { r.Long, r.Short = 34560000, n }))
	wantEnds(t, 1, 34560000, endsOfInt64, rule(func(r *api.Rule, n int64) { r.Long, r.Short = n, n }))
	wantEnds(t, 0, 604800, endsOfInt64, rule(func(r *api.Rule, n int64) { r.For = n }))
	wantEnds(t, 0, 604800, endsOfInt64, rule(func(r *api.Rule, n int64) { r.Keep = n }))
	wantEnds(t, 1, 1000000, endsOfUint64, func(n uint64, right bool) {
		r := aRule("r")
		r.Factor = n
		wantRule(t, r, 60, right)
	})
	for _, n := range []uint64{1 << 31, 1<<32 + 1, 1<<32 + 1000000, 1 << 63, 1<<63 + 1} {
		r := aRule("r")
		r.Factor = n
		wantRule(t, r, 60, false)
	}
	wantRule(t, api.Rule{Name: "r", Long: 34560000, Short: 34560000, Factor: 1000000, For: 604800, Keep: 604800}, 1, true)
}

// P17.1: windows are multiples of the grain, the short one isn't above the long one.
func TestWindows(t *testing.T) {
	for grain := int64(-3); grain < 9; grain++ {
		for long := int64(-7); long < 20; long++ {
			for short := int64(-7); short < 20; short++ {
				multiples := grain >= 1 && long >= 1 && short >= 1 && long%max(grain, 1) == 0 && short%max(grain, 1) == 0
				r := api.Rule{Name: "r", Long: long, Short: short, Factor: 1}
				if right := multiples && short <= long; show.RightRule(r, grain) != right {
					t.Fatal(r, grain, !right)
				}
			}
		}
	}
	for _, grain := range []int64{1, 2, 7, 59, 60, 86399, 86400} {
		most := 34560000 / grain * grain
		for _, w := range [][2]int64{{grain, grain}, {2 * grain, grain}, {most, grain}, {most, most - grain}, {most, most}} {
			r := api.Rule{Name: "r", Long: w[0], Short: w[1], Factor: 1}
			wantRule(t, r, grain, true)
			for _, by := range []int64{-1, 1} {
				off := r
				off.Long += by
				wantRule(t, off, grain, off.Long%grain == 0 && off.Short <= off.Long && off.Long <= 34560000)
				off = r
				off.Short += by
				wantRule(t, off, grain, off.Short%grain == 0 && off.Short >= 1 && off.Short <= off.Long)
			}
		}
		for _, w := range [][2]int64{{grain, 2 * grain}, {most - grain, most}, {most + grain, grain}, {most + grain, most + grain}, {most, most + grain}, {0, 0}, {grain, 0}, {0, grain}, {-grain, -grain}, {grain, -grain}, {-grain, -2 * grain}, {-grain, grain}} {
			wantRule(t, api.Rule{Name: "r", Long: w[0], Short: w[1], Factor: 1}, grain, false)
		}
	}
}

// P17.1: of a grain below 1 no rule is right; one may be of a grain that no goal has.
func TestGrainsOfRules(t *testing.T) {
	for _, grain := range []int64{0, -1, -2, -60, -300, -3600, -86400, math.MinInt64, math.MinInt64 + 1} {
		wantRule(t, aRule("r"), grain, false)
		wantRule(t, api.Rule{Name: "r", Long: grain, Short: grain, Factor: 1}, grain, false)
		wantRule(t, api.Rule{Name: "r", Long: -grain, Short: -grain, Factor: 1}, grain, false)
		wantGoal(t, ruled(grain, aRule("r")), false)
	}
	for _, grain := range []int64{86401, 100000, 17280000, 34560000} {
		r := api.Rule{Name: "r", Long: grain, Short: grain, Factor: 1}
		wantRule(t, r, grain, true)
		wantGoal(t, ruled(grain, r), false)
	}
	for _, grain := range []int64{34560001, 1 << 31, 1 << 32, math.MaxInt64} {
		wantRule(t, api.Rule{Name: "r", Long: grain, Short: grain, Factor: 1}, grain, false)
		wantRule(t, aRule("r"), grain, false)
	}
	for grain, right := range map[int64]bool{1: true, 2: true, 60: true, 100: true, 300: true, 7: false, 301: false, 600: false, 3600: false} {
		wantRule(t, aRule("r"), grain, right)
	}
}

// P17.1: each number of a goal.
func TestNumbersOfGoals(t *testing.T) {
	wantEnds(t, 1, 999999, endsOfUint32, func(n uint32, right bool) {
		g := aGoal("g")
		g.Target = n
		wantGoal(t, g, right)
	})
	// All windows are as long as the grain, whatever it is.
	wantEnds(t, 1, 86400, endsOfInt64, func(n int64, right bool) {
		g := ruled(n, api.Rule{Name: "r", Long: n, Short: n, Factor: 1})
		g.Rolling = n
		wantGoal(t, g, right)
	})
	wantEnds(t, 0, 86400, endsOfInt64, func(n int64, right bool) {
		g := aGoal("g")
		g.Late = n
		wantGoal(t, g, right)
	})
	wantEnds(t, 0, 34560000, endsOfInt64, func(n int64, right bool) {
		g := ruled(1, aRule("r"))
		g.Rolling = n
		wantGoal(t, g, right)
	})
	wantEnds(t, 0, 2, endsOfInt, func(n int, right bool) {
		g := aGoal("g")
		g.Calendar = n
		wantGoal(t, g, right)
		g.Rolling = 3600
		wantGoal(t, g, right)
	})
}

// P17.1: rolling is a multiple of the grain.
func TestRolling(t *testing.T) {
	for _, grain := range []int64{1, 2, 7, 60, 86399, 86400} {
		most := 34560000 / grain * grain
		for _, n := range []int64{0, grain, 2 * grain, most - grain, most} {
			g := ruled(grain, api.Rule{Name: "r", Long: grain, Short: grain, Factor: 1})
			g.Rolling = n
			wantGoal(t, g, true)
			for _, off := range []int64{n - 1, n + 1} {
				g.Rolling = off
				wantGoal(t, g, off%grain == 0 && off >= 0 && off <= 34560000)
			}
			if n > 0 {
				g.Rolling = -n
				wantGoal(t, g, false)
			}
		}
		g := ruled(grain, api.Rule{Name: "r", Long: grain, Short: grain, Factor: 1})
		g.Rolling = most + grain
		wantGoal(t, g, false)
	}
	// A grain below 1 is told as such, whatever rolling is.
	for _, grain := range []int64{0, -1, -60, math.MinInt64} {
		for _, rolling := range []int64{0, 60, grain, math.MinInt64} {
			g := ruled(grain, aRule("r"))
			g.Rolling = rolling
			wantGoal(t, g, false)
		}
	}
}

// P17.1: each number of the notify.
func TestNumbersOfNotify(t *testing.T) {
	wantEnds(t, 1, 64, endsOfInt, func(n int, right bool) {
		wantConfig(t, notified(api.Notify{Room: n, First: 1, Cap: 1}), right)
	})
	wantEnds(t, 0, 64, endsOfInt, func(n int, right bool) {
		wantConfig(t, notified(api.Notify{Room: 64, Reserve: n, First: 1, Cap: 1}), right)
	})
	wantEnds(t, 1, 86400, endsOfInt64, func(n int64, right bool) {
		wantConfig(t, notified(api.Notify{Room: 1, First: n, Cap: 604800}), right)
		wantConfig(t, notified(api.Notify{Room: 1, First: n, Cap: n}), right)
	})
	wantEnds(t, 1, 604800, endsOfInt64, func(n int64, right bool) {
		wantConfig(t, notified(api.Notify{Room: 1, First: 1, Cap: n}), right)
	})
	wantEnds(t, 0, 2592000, endsOfInt64, func(n int64, right bool) {
		wantConfig(t, notified(api.Notify{Room: 1, First: 1, Cap: 1, Repeat: n}), right)
	})
	for room := -2; room < 67; room++ {
		for reserve := -2; reserve < 67; reserve++ {
			wantConfig(t, notified(api.Notify{Room: room, Reserve: reserve, First: 1, Cap: 1}), room >= 1 && room <= 64 && reserve >= 0 && reserve <= room)
		}
	}
	for _, first := range []int64{-1, 0, 1, 2, 10, 300, 86399, 86400, 86401, 604800, 604801} {
		for _, past := range []int64{-86400, -10, -2, -1, 0, 1, 2, 600} {
			n := api.Notify{Room: 1, First: first, Cap: first + past}
			wantConfig(t, notified(n), first >= 1 && first <= 86400 && past >= 0)
			wantConfig(t, api.Config{Goals: []api.Goal{aGoal("a"), aGoal("b")}, Notify: n}, first >= 1 && first <= 86400 && past >= 0)
		}
	}
}

// P17.1: names of goals, labels and rules.
func TestNames(t *testing.T) {
	for s, right := range map[string]bool{
		"a": true, "Z": true, "é": true, "Ж": true, "ω": true, "a1": true, "a-1": true, "a_b": true, "a--b": true, "Жук-9": true, "À": true, "\u024f": true, "\u0370": true, "\u03ff": true, "\u0400": true, "\u04ff": true,
		strings.Repeat("a", 24): true, strings.Repeat("ж", 24): true, "a" + strings.Repeat("-", 22) + "1": true,
		"objective": true, "notify": true, "label": true, "rule": true, "page": true, "ticket": true, "month": true, "target": true, "r": true, "g": true,
		"": false, "1": false, "1a": false, "-a": false, "_a": false, "a-": false, "a_": false, "-": false, "a b": false, " a": false, "a ": false, "a\n": false, "\na": false, "a\t": false, "a.b": false, "a%": false, "a;": false, "a{": false, "}": false, "#a": false, `"a"`: false, "a\x00": false, "\x00": false,
		"\u00d7": false, "\u00f7": false, "a\u00d7": false, "\u00bf": false, "\u0250": false, "\u036f": false, "\u0500": false, "日": false, "\u00a0": false, "a😀": false, "\ufffd": false,
		"\xff": false, "a\xff": false, "\xffa": false, "a\xffb": false, "\xc3": false, "\xed\xa0\x80": false, "\xc1\xa1": false,
		strings.Repeat("a", 25): false, strings.Repeat("ж", 25): false, strings.Repeat("a", 10000): false,
	} {
		wantLabel(t, api.Label{Name: s, Text: "x"}, right)
		r, g := aRule(s), aGoal(s)
		wantRule(t, r, 60, right)
		wantGoal(t, g, right)
	}
}

// P17.1: texts of labels.
func TestTexts(t *testing.T) {
	for _, s := range []string{"", "x", " ", "\n", "\t", `"`, `\`, `\n`, `a"b`, "line\nline\r\n", "}\n", "# no remark", "\x00", "\x1f", "\x7f", "\u0080", "\ufffd", "\U0010ffff", "é😀",
		strings.Repeat("a", 119), strings.Repeat("a", 120), strings.Repeat("é", 120), strings.Repeat("😀", 120), strings.Repeat("\x7f", 120), strings.Repeat("\n", 120), strings.Repeat(`"`, 120), strings.Repeat(`\`, 120), strings.Repeat("\ufffd", 120)} {
		wantLabel(t, api.Label{Name: "l", Text: s}, true)
	}
	for _, s := range []string{"\xff", "a\xff", "\xffa", "a\xffb", "\xc3", "é"[:1], "\xed\xa0\x80", "\xc0\x80", "\xf4\x90\x80\x80", strings.Repeat("a", 119) + "\xff", strings.Repeat("\xff", 120),
		strings.Repeat("a", 121), strings.Repeat("é", 121), strings.Repeat("😀", 121), strings.Repeat("\n", 121), strings.Repeat("a", 120) + "\xff", strings.Repeat("a", 100000)} {
		wantLabel(t, api.Label{Name: "l", Text: s}, false)
	}
}

// P17.1: as many goals, labels and rules as may be, and one more.
func TestHowMany(t *testing.T) {
	names := []string{"a", "b", "A", "é", "web-1", "a1", "a2"}
	var goals []api.Goal
	for n := range 8 {
		wantConfig(t, aConfig(goals...), n <= 6)
		if n < 7 {
			goals = append(goals, aGoal(names[n]))
		}
	}
	var labels []api.Label
	var rules []api.Rule
	for n := range 7 {
		g := labelled(labels...)
		wantGoal(t, g, n <= 4)
		wantGoal(t, ruled(60, rules...), n >= 1 && n <= 4)
		labels, rules = append(labels, api.Label{Name: names[n]}), append(rules, aRule(names[n]))
	}
	empty := aConfig()
	empty.Goals = []api.Goal{}
	wantConfig(t, empty, true)
	g := aGoal("g")
	g.Labels = []api.Label{}
	wantGoal(t, g, true)
	g.Rules = []api.Rule{}
	wantGoal(t, g, false)
	g.Rules = nil
	wantGoal(t, g, false)
	wantConfig(t, aConfig(make([]api.Goal, 10000)...), false)
	g.Rules = make([]api.Rule, 10000)
	wantGoal(t, g, false)
	wantGoal(t, labelled(make([]api.Label, 10000)...), false)
}

// P17.1: no two goals, no two labels of a goal, no two rules of a goal have one name.
func TestUnlikeNames(t *testing.T) {
	for _, pair := range [][2]string{{"x", "x"}, {"é", "é"}, {strings.Repeat("ж", 24), strings.Repeat("ж", 24)}, {"x", "X"}, {"é", "e"}, {"x", "xx"}, {"a-b", "a_b"}, {"x", "x1"}, {strings.Repeat("ж", 24), strings.Repeat("ж", 23)}} {
		right := pair[0] != pair[1]
		for i := range 6 {
			for k := range i {
				names := []string{"n1", "n2", "n3", "n4", "n5", "n6"}
				names[i], names[k] = pair[0], pair[1]
				var goals []api.Goal
				for _, s := range names {
					goals = append(goals, aGoal(s))
				}
				wantConfig(t, aConfig(goals...), right)
				if i > 3 {
					continue
				}
				var labels []api.Label
				var rules []api.Rule
				for n, s := range names[:4] {
					labels = append(labels, api.Label{Name: s, Text: strings.Repeat("t", n)})
					rules = append(rules, aRule(s))
					rules[n].Page = n%2 == 0
				}
				wantGoal(t, labelled(labels...), right)
				wantGoal(t, ruled(60, rules...), right)
			}
		}
	}
}

// P17.1: a goal, a label and a rule may have one name, and labels and rules of unlike goals.
func TestOneName(t *testing.T) {
	for _, s := range []string{"a", "target", "label", "rule", "objective", "notify", "page", "month"} {
		a, b := aGoal(s), aGoal("b")
		a.Labels, a.Rules = []api.Label{{Name: s, Text: s}}, []api.Rule{aRule(s)}
		b.Labels, b.Rules = []api.Label{{Name: s, Text: s}, {Name: "b"}}, []api.Rule{aRule("b"), aRule(s)}
		wantGoal(t, a, true)
		wantGoal(t, b, true)
		wantConfig(t, aConfig(a, b), true)
	}
}
