package change_test

import (
	"math"
	"slices"
	"strings"
	"testing"

	"firebell/api"
	"firebell/change"
	"firebell/show"
)

// set: the goal with something of it set otherwise.
func set(g api.Goal, how func(*api.Goal)) api.Goal {
	g.Rules, g.Labels = slices.Clone(g.Rules), slices.Clone(g.Labels)
	how(&g)
	return g
}

// setRule: the goal with something of its first rule set otherwise.
func setRule(g api.Goal, how func(*api.Rule)) api.Goal {
	return set(g, func(g *api.Goal) { how(&g.Rules[0]) })
}

// two rules, with the windows 60, 300, 600 and 3600.
func two(name string) api.Goal {
	return aGoal(name, aRule("r", 3600, 300), aRule("s", 600, 60))
}

// P18.2: no goals.
func TestNoGoals(t *testing.T) {
	wantPlan(t, aConfig(), aConfig(), "")
	wantPlan(t, aConfig(), aConfig(two("g")), "comes g\ncomes g r\ncomes g s\n")
	wantPlan(t, aConfig(two("g")), aConfig(), "goes g\ngoes g r\ngoes g s\n")
	wantPlan(t, aConfig(two("a"), aGoal("b", aRule("r", 60, 60))), aConfig(), "goes a\ngoes a r\ngoes a s\ngoes b\ngoes b r\n")
}

// P18.2: a goal stays with all its rules, whatever else of it is another one.
func TestGoalStays(t *testing.T) {
	const all = "stays g\nstays g r\nstays g s\n"
	for _, how := range []func(*api.Goal){
		func(*api.Goal) {},
		func(g *api.Goal) { g.Target = 1 },
		func(g *api.Goal) { g.Late = 86400 },
		func(g *api.Goal) { g.Labels = []api.Label{{Name: "team", Text: "x"}} },
		func(g *api.Goal) { g.Target, g.Late, g.Labels = 999999, 1, []api.Label{{Name: "a"}, {Name: "b"}} },
		func(g *api.Goal) { g.Labels = []api.Label{} },
		func(g *api.Goal) { g.Rolling = 300 },
		func(g *api.Goal) { g.Rolling = 3600 },
		func(g *api.Goal) { g.Rolling = 60 },
	} {
		wantPlan(t, aConfig(two("g")), aConfig(set(two("g"), how)), all)
		wantPlan(t, aConfig(set(two("g"), how)), aConfig(two("g")), all)
	}
	labelled := func(l ...api.Label) api.Config {
		return aConfig(set(two("g"), func(g *api.Goal) { g.Labels = l }))
	}
	wantPlan(t, labelled(api.Label{Name: "a", Text: "x"}), labelled(api.Label{Name: "a", Text: "y"}), all)
	wantPlan(t, labelled(api.Label{Name: "a"}, api.Label{Name: "b"}), labelled(api.Label{Name: "b"}, api.Label{Name: "a"}), all)
	louder := aConfig(two("g"))
	louder.Notify = api.Notify{Room: 64, Reserve: 1, First: 1, Cap: 1, Repeat: 1}
	wantPlan(t, aConfig(two("g")), louder, all)
}

// P18.2: of a goal that turns no rule stays, also those that are the same in all.
func TestGoalTurns(t *testing.T) {
	const all = "turns g\nturns g r\nturns g s\n"
	for _, how := range []func(*api.Goal){
		func(g *api.Goal) { g.Grain = 30 },
		func(g *api.Goal) { g.Grain = 1 },
		func(g *api.Goal) { g.Calendar = api.CalMonth },
		func(g *api.Goal) { g.Calendar = api.CalQuarter },
		func(g *api.Goal) { g.Rolling = 120 },
		func(g *api.Goal) { g.Rolling = 34560000 },
		func(g *api.Goal) { g.Grain, g.Calendar, g.Rolling = 20, 1, 20 },
		func(g *api.Goal) { g.Rules[0].Long = 7200 },
		func(g *api.Goal) { g.Rules[0].Long = 600 },
		func(g *api.Goal) { g.Rules[0].Short = 120 },
		func(g *api.Goal) { g.Rules[1].Short = 300 },
		func(g *api.Goal) { g.Rules[1].Long = 60 },
		func(g *api.Goal) { g.Rules[0], g.Rules[1] = aRule("r", 60, 60), aRule("s", 60, 60) },
	} {
		wantPlan(t, aConfig(two("g")), aConfig(set(two("g"), how)), all)
		wantPlan(t, aConfig(set(two("g"), how)), aConfig(two("g")), all)
	}
	calendar := func(n int) api.Config { return aConfig(set(two("g"), func(g *api.Goal) { g.Calendar = n })) }
	wantPlan(t, calendar(1), calendar(2), all)
	wantPlan(t, calendar(2), calendar(1), all)
	rolled := func(n int64) api.Config { return aConfig(set(two("g"), func(g *api.Goal) { g.Rolling = n })) }
	wantPlan(t, rolled(120), rolled(180), all)
	wantPlan(t, rolled(120), rolled(300), all)
	// With a rule comes or goes a window.
	one := aConfig(aGoal("g", aRule("r", 3600, 300)))
	wantPlan(t, one, aConfig(two("g")), "turns g\nturns g r\ncomes g s\n")
	wantPlan(t, aConfig(two("g")), one, "turns g\nturns g r\ngoes g s\n")
}

// P18.2: the windows are alike, though rules are others, in another order, or Rolling has the place of one.
func TestWindowsAlike(t *testing.T) {
	old := aConfig(two("g"))
	wantPlan(t, old, aConfig(aGoal("g", aRule("s", 600, 60), aRule("r", 3600, 300))), "stays g\nstays g s\nstays g r\n")
	wantPlan(t, old, aConfig(aGoal("g", aRule("r", 600, 60), aRule("s", 3600, 300))), "stays g\nturns g r\nturns g s\n")
	wantPlan(t, old, aConfig(aGoal("g", aRule("r", 600, 300), aRule("s", 3600, 60))), "stays g\nturns g r\nturns g s\n")
	wantPlan(t, old, aConfig(aGoal("g", aRule("p", 600, 300), aRule("q", 3600, 60))), "stays g\ncomes g p\ncomes g q\ngoes g r\ngoes g s\n")
	wantPlan(t, old, aConfig(aGoal("g", aRule("p", 600, 60), aRule("s", 3600, 300))), "stays g\ncomes g p\nturns g s\ngoes g r\n")
	wantPlan(t, old, aConfig(set(aGoal("g", aRule("r", 3600, 300), aRule("s", 60, 60)), func(g *api.Goal) { g.Rolling = 600 })), "stays g\nstays g r\nturns g s\n")
	wantPlan(t, old, aConfig(set(aGoal("g", aRule("r", 3600, 300), aRule("s", 600, 300)), func(g *api.Goal) { g.Rolling = 60 })), "stays g\nstays g r\nturns g s\n")
	wantPlan(t, old, aConfig(set(aGoal("g", aRule("s", 600, 60), aRule("p", 300, 300)), func(g *api.Goal) { g.Rolling = 3600 })), "stays g\nstays g s\ncomes g p\ngoes g r\n")
}

// P18.2: a goal stays; of its rules one comes, one goes, one stays, one turns.
func TestRulesOfOneThatStays(t *testing.T) {
	old := aConfig(aGoal("g", aRule("a", 600, 60), aRule("b", 600, 60), aRule("c", 600, 60), aRule("d", 600, 60)))
	now := aGoal("g", aRule("e", 600, 60), aRule("c", 600, 60), aRule("b", 60, 60), aRule("f", 600, 600))
	wantPlan(t, old, aConfig(now), "stays g\ncomes g e\nstays g c\nturns g b\ncomes g f\ngoes g a\ngoes g d\n")
	wantPlan(t, old, aConfig(aGoal("g", aRule("d", 600, 60))), "stays g\nstays g d\ngoes g a\ngoes g b\ngoes g c\n")
	wantPlan(t, aConfig(aGoal("g", aRule("d", 600, 60))), old, "stays g\ncomes g a\ncomes g b\ncomes g c\nstays g d\n")
	wantPlan(t, old, aConfig(aGoal("g", aRule("A", 600, 60), aRule("b", 600, 60))), "stays g\ncomes g A\nstays g b\ngoes g a\ngoes g c\ngoes g d\n")
}

// P18.2: of a goal that turns rules come, go and turn.
func TestRulesOfOneThatTurns(t *testing.T) {
	old := aConfig(aGoal("g", aRule("a", 600, 60), aRule("b", 600, 60), aRule("c", 600, 60), aRule("d", 600, 60)))
	now := aGoal("g", aRule("e", 600, 60), aRule("c", 600, 60), aRule("b", 60, 60), aRule("f", 600, 600))
	now.Calendar = api.CalMonth
	wantPlan(t, old, aConfig(now), "turns g\ncomes g e\nturns g c\nturns g b\ncomes g f\ngoes g a\ngoes g d\n")
	wantPlan(t, old, aConfig(aGoal("g", aRule("z", 60, 60))), "turns g\ncomes g z\ngoes g a\ngoes g b\ngoes g c\ngoes g d\n")
}

// P18.2: a rule is another one in one thing alone, with the goal's windows as they are, and as other ones.
func TestRuleTurns(t *testing.T) {
	goal := aGoal("g", aRule("r", 3600, 300), aRule("s", 3600, 300), aRule("u", 7200, 60))
	for _, how := range []func(*api.Rule){
		func(r *api.Rule) { r.Long = 7200 },
		func(r *api.Rule) { r.Long = 300 },
		func(r *api.Rule) { r.Short = 60 },
		func(r *api.Rule) { r.Short = 3600 },
		func(r *api.Rule) { r.Factor = 1001 },
		func(r *api.Rule) { r.Factor = 1000000 },
		func(r *api.Rule) { r.For = 1 },
		func(r *api.Rule) { r.For = 604800 },
		func(r *api.Rule) { r.Keep = 1 },
		func(r *api.Rule) { r.Keep = 604800 },
		func(r *api.Rule) { r.Page = true },
	} {
		other := setRule(goal, how)
		wantPlan(t, aConfig(goal), aConfig(other), "stays g\nturns g r\nstays g s\nstays g u\n")
		wantPlan(t, aConfig(other), aConfig(goal), "stays g\nturns g r\nstays g s\nstays g u\n")
		other.Rolling = 120
		wantPlan(t, aConfig(goal), aConfig(other), "turns g\nturns g r\nturns g s\nturns g u\n")
		wantPlan(t, aConfig(other), aConfig(goal), "turns g\nturns g r\nturns g s\nturns g u\n")
	}
	named := setRule(goal, func(r *api.Rule) { r.Name = "R" })
	wantPlan(t, aConfig(goal), aConfig(named), "stays g\ncomes g R\nstays g s\nstays g u\ngoes g r\n")
}

// P18.2: rules of one name in unlike goals, and goals of their rules' names, have nothing to do with one another.
func TestNamesTwice(t *testing.T) {
	r, s := aRule("r", 600, 60), aRule("r", 600, 60)
	s.Keep = 1
	wantPlan(t, aConfig(aGoal("a", r), aGoal("b", r), aGoal("c", r)), aConfig(aGoal("a", s), aGoal("b", r), aGoal("d", r)),
		"stays a\nturns a r\nstays b\nstays b r\ncomes d\ncomes d r\ngoes c\ngoes c r\n")
	wantPlan(t, aConfig(aGoal("a", r), aGoal("b", s)), aConfig(aGoal("a", s), aGoal("b", r)), "stays a\nturns a r\nstays b\nturns b r\n")
	wantPlan(t, aConfig(aGoal("r", r)), aConfig(aGoal("r", r)), "stays r\nstays r r\n")
	wantPlan(t, aConfig(aGoal("r", r)), aConfig(aGoal("s", r)), "comes s\ncomes s r\ngoes r\ngoes r r\n")
	wantPlan(t, aConfig(aGoal("a", r)), aConfig(aGoal("A", r)), "comes A\ncomes A r\ngoes a\ngoes a r\n")
	wantPlan(t, aConfig(aGoal("é", r)), aConfig(aGoal("e", r), aGoal("é", r)), "comes e\ncomes e r\nstays é\nstays é r\n")
}

// P18.2: the order in which all of it is told.
func TestOrder(t *testing.T) {
	old := aConfig(
		aGoal("gone-1", aRule("b", 60, 60), aRule("a", 120, 60)),
		aGoal("stays", aRule("y", 600, 60), aRule("x", 600, 60), aRule("p", 600, 60), aRule("q", 600, 60)),
		aGoal("gone-0", aRule("r", 60, 60)),
		aGoal("turns", aRule("z", 120, 60), aRule("d", 120, 60), aRule("c", 120, 60)),
	)
	now := aConfig(
		aGoal("turns", aRule("new-2", 60, 60), aRule("d", 120, 120), aRule("new-1", 180, 60)),
		aGoal("comes-2", aRule("n", 60, 60), aRule("m", 60, 60)),
		aGoal("stays", aRule("q", 600, 60), aRule("new", 600, 60), aRule("x", 600, 600)),
		aGoal("comes-1", aRule("r", 60, 60)),
	)
	wantPlan(t, old, now, strings.Join([]string{
		"turns turns", "comes turns new-2", "turns turns d", "comes turns new-1", "goes turns z", "goes turns c",
		"comes comes-2", "comes comes-2 n", "comes comes-2 m",
		"stays stays", "stays stays q", "comes stays new", "turns stays x", "goes stays y", "goes stays p",
		"comes comes-1", "comes comes-1 r",
		"goes gone-1", "goes gone-1 b", "goes gone-1 a",
		"goes gone-0", "goes gone-0 r", "",
	}, "\n"))
	wantPlan(t, aConfig(two("a"), two("b"), two("c")), aConfig(two("c"), two("a"), two("b")),
		"stays c\nstays c r\nstays c s\nstays a\nstays a r\nstays a s\nstays b\nstays b r\nstays b s\n")
}

// greatest config: of as many goals and rules as there may be, each number as great as it may be.
func greatest(letters, rules string) api.Config {
	c := api.Config{Notify: api.Notify{Room: 64, Reserve: 64, First: 86400, Cap: 604800, Repeat: 2592000}}
	for _, x := range letters {
		g := api.Goal{Name: strings.Repeat(string(x), 24), Target: 999999, Grain: 86400, Late: 86400, Rolling: 34560000, Calendar: 2}
		for _, y := range "abcd" {
			g.Labels = append(g.Labels, api.Label{Name: strings.Repeat(string(y), 24), Text: strings.Repeat("\x00", 120)})
		}
		for i, y := range rules {
			long := 34560000 - 86400*int64(i)
			g.Rules = append(g.Rules, api.Rule{Name: strings.Repeat(string(y), 24), Page: true, Long: long, Short: long, Factor: 1000000, For: 604800, Keep: 604800})
		}
		c.Goals = append(c.Goals, g)
	}
	return c
}

// all: a goal and its rules, each with a word.
func all(word string, goal rune, rules string) string {
	name := strings.Repeat(string(goal), 24)
	s := word + " " + name + "\n"
	for _, r := range rules {
		s += word + " " + name + " " + strings.Repeat(string(r), 24) + "\n"
	}
	return s
}

// P18.2: the greatest configs.
func TestGreatest(t *testing.T) {
	old, now := greatest("abcdeω", "rstω"), greatest("fghijЖ", "rstω")
	var stay, come, leave string
	for i, x := range []rune("abcdeω") {
		stay += all("stays", x, "rstω")
		leave += all("goes", x, "rstω")
		come += all("comes", []rune("fghijЖ")[i], "rstω")
	}
	wantPlan(t, old, old, stay)
	wantPlan(t, old, now, come+leave)
	wantPlan(t, now, old, strings.ReplaceAll(leave, "goes", "comes")+strings.ReplaceAll(come, "comes", "goes"))
	wantPlan(t, old, aConfig(), leave)
	others := greatest("ω", "wxyz")
	want := all("stays", 'ω', "") + strings.TrimPrefix(all("comes", 'ω', "wxyz"), all("comes", 'ω', "")) + strings.TrimPrefix(all("goes", 'ω', "rstω"), all("goes", 'ω', ""))
	wantPlan(t, old, others, want+strings.TrimSuffix(leave, all("goes", 'ω', "rstω")))
}

// P18.2: Arg, and no turns, if the old config, the new one, or both aren't right.
func TestNotRight(t *testing.T) {
	right := aConfig(two("g"), two("h"))
	wrong := []api.Config{{}, {Goals: right.Goals}, {Notify: api.Notify{Room: 1, First: 2, Cap: 1}}}
	for _, how := range []func(*api.Goal){
		func(g *api.Goal) { *g = api.Goal{} },
		func(g *api.Goal) { g.Name = "" },
		func(g *api.Goal) { g.Name = "a-" },
		func(g *api.Goal) { g.Name = "g" },
		func(g *api.Goal) { g.Name = strings.Repeat("é", 25) },
		func(g *api.Goal) { g.Name = "a\xff" },
		func(g *api.Goal) { g.Target = 0 },
		func(g *api.Goal) { g.Target = 1000000 },
		func(g *api.Goal) { g.Grain = 0 },
		func(g *api.Goal) { g.Grain = -60 },
		func(g *api.Goal) { g.Grain = 7 },
		func(g *api.Goal) { g.Grain = math.MinInt64 },
		func(g *api.Goal) { g.Late = 86401 },
		func(g *api.Goal) { g.Late = -1 },
		func(g *api.Goal) { g.Rolling = -60 },
		func(g *api.Goal) { g.Rolling = 61 },
		func(g *api.Goal) { g.Rolling = 34560060 },
		func(g *api.Goal) { g.Calendar = 3 },
		func(g *api.Goal) { g.Calendar = -1 },
		func(g *api.Goal) { g.Labels = []api.Label{{Name: "1"}} },
		func(g *api.Goal) { g.Labels = []api.Label{{Name: "a"}, {Name: "a"}} },
		func(g *api.Goal) { g.Labels = []api.Label{{Name: "a", Text: "\xff"}} },
		func(g *api.Goal) { g.Labels = make([]api.Label, 5) },
		func(g *api.Goal) { g.Rules = nil },
		func(g *api.Goal) {
			g.Rules = append(g.Rules, aRule("t", 60, 60), aRule("u", 60, 60), aRule("v", 60, 60))
		},
		func(g *api.Goal) { g.Rules = append(g.Rules, g.Rules[1]) },
		func(g *api.Goal) { g.Rules[1] = api.Rule{} },
		func(g *api.Goal) { g.Rules[1].Name = "r" },
		func(g *api.Goal) { g.Rules[1].Name = "" },
		func(g *api.Goal) { g.Rules[1].Long = 0 },
		func(g *api.Goal) { g.Rules[1].Long = 34560060 },
		func(g *api.Goal) { g.Rules[1].Short = 660 },
		func(g *api.Goal) { g.Rules[1].Short = 59 },
		func(g *api.Goal) { g.Rules[1].Factor = 0 },
		func(g *api.Goal) { g.Rules[1].Factor = math.MaxUint64 },
		func(g *api.Goal) { g.Rules[1].For = -1 },
		func(g *api.Goal) { g.Rules[1].Keep = 604801 },
	} {
		wrong = append(wrong, aConfig(two("g"), set(two("h"), how)))
	}
	for _, how := range []func(*api.Notify){
		func(n *api.Notify) { n.Room = 65 },
		func(n *api.Notify) { n.Reserve = 17 },
		func(n *api.Notify) { n.First = 301 },
		func(n *api.Notify) { n.Cap = 604801 },
		func(n *api.Notify) { n.Repeat = -1 },
	} {
		c := aConfig(two("g"), two("h"))
		how(&c.Notify)
		wrong = append(wrong, c)
	}
	wrong = append(wrong, aConfig(two("a"), two("b"), two("c"), two("d"), two("e"), two("f"), two("g")))
	for i, c := range wrong {
		if show.Right(c) {
			t.Fatalf("%+v", c)
		}
		wantNoPlan(t, c, right)
		wantNoPlan(t, right, c)
		wantNoPlan(t, c, c)
		wantNoPlan(t, c, aConfig())
		wantNoPlan(t, aConfig(), c)
		wantNoPlan(t, c, wrong[(i+1)%len(wrong)])
	}
}

// P18.2 of what is told: it is the caller's.
func TestPlanIsTheCallers(t *testing.T) {
	old, now := aConfig(two("a"), two("b")), aConfig(two("b"), two("c"))
	first, _ := change.Plan(old, now)
	kept := slices.Clone(first)
	second, _ := change.Plan(old, now)
	for i := range first {
		first[i] = api.Turn{}
	}
	_ = append(first, api.Turn{})
	if !slices.Equal(second, kept) {
		t.Error(second)
	}
	if third, code := change.Plan(old, now); code != api.Fine || !slices.Equal(third, kept) {
		t.Error(third, code)
	}
}
