package change_test

import (
	"fmt"
	"maps"
	"reflect"
	"regexp"
	"slices"
	"strings"
	"testing"
	"unicode/utf8"

	"firebell/api"
	"firebell/change"
)

func aRule(name string, long, short int64) api.Rule {
	return api.Rule{Name: name, Long: long, Short: short, Factor: 1000}
}

func aGoal(name string, rules ...api.Rule) api.Goal {
	return api.Goal{Name: name, Target: 999000, Grain: 60, Rules: rules}
}

func aConfig(goals ...api.Goal) api.Config {
	return api.Config{Goals: goals, Notify: api.Notify{Room: 16, First: 10, Cap: 300}}
}

// copied whole, with lists of its own.
func copied(c api.Config) api.Config {
	c.Goals = slices.Clone(c.Goals)
	for i := range c.Goals {
		c.Goals[i].Labels = slices.Clone(c.Goals[i].Labels)
		c.Goals[i].Rules = slices.Clone(c.Goals[i].Rules)
	}
	return c
}

// modelWindows are a set, in order.
func modelWindows(g api.Goal) []int64 {
	set := map[int64]int{}
	for _, r := range g.Rules {
		set[r.Long]++
		set[r.Short]++
	}
	if g.Rolling != 0 {
		set[g.Rolling]++
	}
	return slices.Sorted(maps.Keys(set))
}

// modelGoals by their names.
func modelGoals(c api.Config) map[string]api.Goal {
	m := map[string]api.Goal{}
	for _, g := range c.Goals {
		m[g.Name] = g
	}
	return m
}

// modelRules by their names.
func modelRules(g api.Goal) map[string]api.Rule {
	m := map[string]api.Rule{}
	for _, r := range g.Rules {
		m[r.Name] = r
	}
	return m
}

// modelGoal: what becomes of a goal, by the chapter's words.
func modelGoal(old, now api.Config, name string) int {
	a, was := modelGoals(old)[name]
	b, is := modelGoals(now)[name]
	switch {
	case !was:
		return 1
	case !is:
		return 4
	case a.Grain != b.Grain, a.Calendar != b.Calendar, fmt.Sprint(modelWindows(a)) != fmt.Sprint(modelWindows(b)):
		return 3
	}
	return 2
}

// modelRule: what becomes of a rule, by the chapter's words.
func modelRule(old, now api.Config, goal, name string) int {
	kind := modelGoal(old, now, goal)
	a, was := modelRules(modelGoals(old)[goal])[name]
	b, is := modelRules(modelGoals(now)[goal])[name]
	switch {
	case kind == 1 || kind == 4:
		return kind
	case !was:
		return 1
	case !is:
		return 4
	case kind == 2 && reflect.DeepEqual(a, b):
		return 2
	}
	return 3
}

// modelPlan is the plan of right configs.
func modelPlan(old, now api.Config) []api.Turn {
	var l []api.Turn
	inOld, inNow := modelGoals(old), modelGoals(now)
	put := func(goal, rule string, kind int) { l = append(l, api.Turn{Goal: goal, Rule: rule, Kind: kind}) }
	for _, g := range now.Goals {
		put(g.Name, "", modelGoal(old, now, g.Name))
		for _, r := range g.Rules {
			put(g.Name, r.Name, modelRule(old, now, g.Name, r.Name))
		}
		for _, r := range inOld[g.Name].Rules {
			if _, is := modelRules(g)[r.Name]; !is {
				put(g.Name, r.Name, 4)
			}
		}
	}
	for _, g := range old.Goals {
		if _, is := inNow[g.Name]; is {
			continue
		}
		put(g.Name, "", 4)
		for _, r := range g.Rules {
			put(g.Name, r.Name, 4)
		}
	}
	return l
}

const letter = `a-zA-Z\x{C0}-\x{D6}\x{D8}-\x{F6}\x{F8}-\x{24F}\x{370}-\x{3FF}\x{400}-\x{4FF}`

var (
	nameForm = regexp.MustCompile(`^[` + letter + `](?:[` + letter + `0-9_-]*[` + letter + `0-9])?$`)
	lineForm = regexp.MustCompile(`^(comes|stays|turns|goes) ([^ ]+)( [^ ]+)?$`)
)

func modelName(s string) bool {
	return utf8.ValidString(s) && utf8.RuneCountInString(s) <= 24 && !strings.HasSuffix(s, "\n") && nameForm.MatchString(s)
}

// modelRight: is each turn?
func modelRight(l []api.Turn) bool {
	return !slices.ContainsFunc(l, func(t api.Turn) bool {
		return t.Kind < 1 || t.Kind > 4 || !modelName(t.Goal) || t.Rule != "" && !modelName(t.Rule)
	})
}

// lines of turns, whatever they are.
func lines(l []api.Turn) string {
	var b strings.Builder
	for _, t := range l {
		word, ok := map[int]string{1: "comes", 2: "stays", 3: "turns", 4: "goes"}[t.Kind]
		if !ok {
			word = fmt.Sprint(t.Kind)
		}
		b.WriteString(word + " " + t.Goal)
		if t.Rule != "" {
			b.WriteString(" " + t.Rule)
		}
		b.WriteString("\n")
	}
	return b.String()
}

// modelRead: the turns, or that there are none.
func modelRead(s string) ([]api.Turn, bool) {
	var l []api.Turn
	pieces := strings.Split(s, "\n")
	if pieces[len(pieces)-1] != "" {
		return nil, false
	}
	for _, piece := range pieces[:len(pieces)-1] {
		m := lineForm.FindStringSubmatch(piece)
		if m == nil {
			return nil, false
		}
		kind := map[string]int{"comes": 1, "stays": 2, "turns": 3, "goes": 4}[m[1]]
		l = append(l, api.Turn{Goal: m[2], Rule: strings.TrimPrefix(m[3], " "), Kind: kind})
	}
	if !modelRight(l) {
		return nil, false
	}
	return l, true
}

// modelFind: from the last one on, the first one tells.
func modelFind(l []api.Turn, goal, rule string) int {
	kind := 0
	for _, t := range slices.Backward(l) {
		if t.Goal == goal && t.Rule == rule {
			kind = t.Kind
		}
	}
	return kind
}

// modelTally counts by the chapter's numbers.
func modelTally(l []api.Turn) [4]int {
	m := map[int]int{}
	for _, t := range l {
		m[t.Kind]++
	}
	return [4]int{m[1], m[2], m[3], m[4]}
}

// P18.2: the plan of two right configs, as lines; and, P18.4, what holds of it beside.
func wantPlan(t *testing.T, old, now api.Config, want string) {
	t.Helper()
	keptOld, keptNow := copied(old), copied(now)
	l, code := change.Plan(old, now)
	if code != api.Fine || lines(l) != want {
		t.Fatalf("%+v\nbecomes\n%+v\nby, %v,\n%s\nnot by\n%s", old, now, code, lines(l), want)
	}
	if model := modelPlan(old, now); lines(model) != want {
		t.Fatalf("to the model it is\n%s\nnot\n%s", lines(model), want)
	}
	if !reflect.DeepEqual(old, keptOld) || !reflect.DeepEqual(now, keptNow) {
		t.Fatalf("%+v, %+v\nwere\n%+v, %+v", old, now, keptOld, keptNow)
	}
	wantTurns(t, l, true)
	wantBack(t, old, now, l)
	wantOwnPlace(t, old)
	wantOwnPlace(t, now)
}

// P18.4: forth and back what comes goes, what goes comes, what stays stays, and what turns turns.
func wantBack(t *testing.T, old, now api.Config, forth []api.Turn) {
	t.Helper()
	back, code := change.Plan(now, old)
	if code != api.Fine || len(back) != len(forth) {
		t.Fatalf("forth\n%s\nback, %v,\n%s", lines(forth), code, lines(back))
	}
	for _, x := range forth {
		want := map[int]int{1: 4, 2: 2, 3: 3, 4: 1}[x.Kind]
		if change.Find(back, x.Goal, x.Rule) != want {
			t.Fatalf("%+v forth, and back\n%s", x, lines(back))
		}
	}
}

// P18.4: a config in its own place leaves all as it is.
func wantOwnPlace(t *testing.T, c api.Config) {
	t.Helper()
	l, code := change.Plan(c, copied(c))
	var want []api.Turn
	for _, g := range c.Goals {
		want = append(want, api.Turn{Goal: g.Name, Kind: 2})
		for _, r := range g.Rules {
			want = append(want, api.Turn{Goal: g.Name, Rule: r.Name, Kind: 2})
		}
	}
	if code != api.Fine || !slices.Equal(l, want) {
		t.Fatalf("%+v\nbecomes itself by, %v,\n%s", c, code, lines(l))
	}
}

// wantNoPlan: one of them isn't right.
func wantNoPlan(t *testing.T, old, now api.Config) {
	t.Helper()
	keptOld, keptNow := copied(old), copied(now)
	if l, code := change.Plan(old, now); len(l) > 0 || code != api.Arg {
		t.Fatalf("%+v\nbecomes\n%+v\nby, %v,\n%s", old, now, code, lines(l))
	}
	if !reflect.DeepEqual(old, keptOld) || !reflect.DeepEqual(now, keptNow) {
		t.Fatalf("%+v, %+v\nwere\n%+v, %+v", old, now, keptOld, keptNow)
	}
}

// P18.2 and P18.3, of any turns: each is found, they are counted, and printed, if all are right; what is printed is read.
func wantTurns(t *testing.T, l []api.Turn, right bool) {
	t.Helper()
	kept := slices.Clone(l)
	if modelRight(l) != right {
		t.Fatalf("%+v\nis to the model %v", l, !right)
	}
	for _, x := range l {
		if n := change.Find(l, x.Goal, x.Rule); n != modelFind(l, x.Goal, x.Rule) {
			t.Fatalf("%+v is found as %d in\n%+v", x, n, l)
		}
	}
	if n := change.Tally(l); n != modelTally(l) {
		t.Fatalf("%v in\n%+v", n, l)
	}
	s, code := change.Print(l)
	switch {
	case right && (code != api.Fine || s != lines(l)):
		t.Fatalf("%+v\nis printed, %v, as\n%s", l, code, s)
	case !right && (code != api.Form || s != ""):
		t.Fatalf("%+v\nis printed, %v, as\n%s", l, code, s)
	}
	if m, code := change.Read(s); code != api.Fine || right && !slices.Equal(m, l) || !right && len(m) > 0 {
		t.Fatalf("%q\nis read, %v, as\n%+v", s, code, m)
	}
	if !slices.Equal(l, kept) {
		t.Fatalf("%+v\nwas\n%+v", l, kept)
	}
}

// P18.3: a text is that of these turns.
func wantRead(t *testing.T, s string, want ...api.Turn) {
	t.Helper()
	l, code := change.Read(s)
	if code != api.Fine || !slices.Equal(l, want) {
		t.Fatalf("%q\nis read, %v, as\n%+v", s, code, l)
	}
	if model, ok := modelRead(s); !ok || !slices.Equal(model, want) {
		t.Fatalf("%q\nis to the model, %v,\n%+v", s, ok, model)
	}
	wantTurns(t, l, true)
}

// P18.3: a text is that of no turns; nor is it among right lines.
func wantNoRead(t *testing.T, s string) {
	t.Helper()
	for _, s := range []string{s, "comes a\n" + s, "comes a\nstays b r\n" + s, s + "comes a\n", s + "goes a r\n", "comes a\n" + s + "\n"} {
		if _, ok := modelRead(s); ok {
			continue // with a line behind it, it may be right
		}
		if l, code := change.Read(s); code != api.Word || len(l) > 0 {
			t.Fatalf("%q\nis read, %v, as\n%+v", s, code, l)
		}
	}
	if _, ok := modelRead(s); ok {
		t.Fatalf("%q is right to the model", s)
	}
}
