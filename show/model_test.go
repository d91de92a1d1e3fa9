package show_test

import (
	"fmt"
	"reflect"
	"regexp"
	"slices"
	"strings"
	"testing"
	"unicode/utf8"

	"firebell/api"
	"firebell/compile"
	"firebell/layout"
	"firebell/ppm"
	"firebell/scan"
	"firebell/show"
	"firebell/span"
	"firebell/text"
	"firebell/tree"
)

func aRule(name string) api.Rule {
	return api.Rule{Name: name, Page: true, Long: 3600, Short: 300, Factor: 14400}
}

func aGoal(name string) api.Goal {
	return api.Goal{Name: name, Target: 999000, Grain: 60, Rules: []api.Rule{aRule("r")}}
}

func aConfig(goals ...api.Goal) api.Config {
	return api.Config{Goals: goals, Notify: api.Notify{Room: 16, First: 10, Cap: 300}}
}

// ruled: a goal of a grain with these rules.
func ruled(grain int64, rules ...api.Rule) api.Goal {
	g := aGoal("g")
	g.Grain, g.Rules = grain, rules
	return g
}

// labelled: a goal with these labels.
func labelled(labels ...api.Label) api.Goal {
	g := aGoal("g")
	g.Labels = labels
	return g
}

// notified: a config without goals.
func notified(n api.Notify) api.Config { return api.Config{Notify: n} }

const letter = `a-zA-Z\x{C0}-\x{D6}\x{D8}-\x{F6}\x{F8}-\x{24F}\x{370}-\x{3FF}\x{400}-\x{4FF}`

var nameForm = regexp.MustCompile(`^[` + letter + `](?:[` + letter + `0-9_-]*[` + letter + `0-9])?$`)

func modelName(s string) bool {
	return utf8.ValidString(s) && utf8.RuneCountInString(s) <= 24 && nameForm.MatchString(s)
}

// unlike: are all of them names, and no two alike?
func unlike(names []string) bool {
	slices.Sort(names)
	return len(slices.Compact(slices.Clone(names))) == len(names) && !slices.ContainsFunc(names, func(s string) bool { return !modelName(s) })
}

func modelRule(r api.Rule, grain int64) bool {
	switch {
	case !modelName(r.Name), grain < 1:
		return false
	case r.Long < 1, r.Long > 34560000, r.Long%grain != 0, r.Short < 1, r.Short > r.Long, r.Short%grain != 0:
		return false
	case r.Factor < 1, r.Factor > 1000000, r.For < 0, r.For > 604800, r.Keep < 0, r.Keep > 604800:
		return false
	}
	return true
}

func modelGoal(g api.Goal) bool {
	var rules, labels []string
	for _, r := range g.Rules {
		rules = append(rules, r.Name)
		if !modelRule(r, g.Grain) {
			return false
		}
	}
	for _, l := range g.Labels {
		labels = append(labels, l.Name)
		if !utf8.ValidString(l.Text) || utf8.RuneCountInString(l.Text) > 120 {
			return false
		}
	}
	switch {
	case !modelName(g.Name), !unlike(rules), !unlike(labels), len(rules) < 1, len(rules) > 4, len(labels) > 4:
		return false
	case g.Target < 1, g.Target > 999999, g.Grain < 1, g.Grain > 86400, g.Late < 0, g.Late > 86400:
		return false
	case g.Rolling < 0, g.Rolling > 34560000, g.Rolling%g.Grain != 0:
		return false
	}
	return g.Calendar == 0 || g.Calendar == 1 || g.Calendar == 2
}

func modelRight(c api.Config) bool {
	var names []string
	for _, g := range c.Goals {
		names = append(names, g.Name)
		if !modelGoal(g) {
			return false
		}
	}
	n := c.Notify
	switch {
	case len(names) > 6, !unlike(names):
		return false
	case n.Room < 1, n.Room > 64, n.Reserve < 0, n.Reserve > n.Room:
		return false
	case n.First < 1, n.First > 86400, n.Cap < n.First, n.Cap > 604800, n.Repeat < 0, n.Repeat > 2592000:
		return false
	}
	return true
}

// writtenName is a name, or what is read as nothing.
func writtenName(s string) string {
	if !modelName(s) {
		return "?"
	}
	return s
}

func writtenText(s string) string {
	if q, c := text.Quote(s); c == api.Fine {
		return q
	}
	return "?"
}

// writtenFactor has as few digits behind its point as can be, but one.
func writtenFactor(n uint64) string {
	s := strings.TrimRight(fmt.Sprintf("%d.%03d", n/1000, n%1000), "0")
	if strings.HasSuffix(s, ".") {
		s += "0"
	}
	return s
}

// modelPrint is the print that the chapter tells, line by line; of a config that isn't right a source that has faults.
func modelPrint(c api.Config) string {
	var b strings.Builder
	put := func(form string, parts ...any) { fmt.Fprintf(&b, form+"\n", parts...) }
	for _, g := range c.Goals {
		put("objective %s {", writtenName(g.Name))
		put("  target %s;", ppm.Print(g.Target))
		put("  grain %s;", span.Print(g.Grain))
		put("  late %s;", span.Print(g.Late))
		if g.Rolling != 0 {
			put("  rolling %s;", span.Print(g.Rolling))
		}
		if g.Calendar != 0 {
			put("  calendar %s;", map[int]string{1: "month", 2: "quarter"}[g.Calendar])
		}
		for _, l := range g.Labels {
			put("  label %s %s;", writtenName(l.Name), writtenText(l.Text))
		}
		for _, r := range g.Rules {
			put("  rule %s %s {", writtenName(r.Name), map[bool]string{true: "page", false: "ticket"}[r.Page])
			put("    long %s;", span.Print(r.Long))
			put("    short %s;", span.Print(r.Short))
			put("    factor %s;", writtenFactor(r.Factor))
			put("    for %s;", span.Print(r.For))
			put("    keep %s;", span.Print(r.Keep))
			put("  }")
		}
		put("}")
	}
	n := c.Notify
	put("notify {")
	put("  room %d;\n  reserve %d;", n.Room, n.Reserve)
	put("  first %s;\n  cap %s;\n  repeat %s;", span.Print(n.First), span.Print(n.Cap), span.Print(n.Repeat))
	put("}")
	return b.String()
}

// copied whole, with lists of its own.
func copied(c api.Config) api.Config {
	c.Goals = slices.Clone(c.Goals)
	for i := range c.Goals {
		c.Goals[i].Labels = slices.Clone(c.Goals[i].Labels)
		c.Goals[i].Rules = slices.Clone(c.Goals[i].Rules)
	}
	return c
}

// bared of empty lists: they may be nil or empty.
func bared(c api.Config) api.Config {
	c = copied(c)
	c.Goals = append([]api.Goal(nil), c.Goals...)
	for i, g := range c.Goals {
		c.Goals[i].Labels = append([]api.Label(nil), g.Labels...)
		c.Goals[i].Rules = append([]api.Rule(nil), g.Rules...)
	}
	return c
}

func sameConfig(a, b api.Config) bool { return reflect.DeepEqual(bared(a), bared(b)) }

// placeless: have the items, their words and all kids the place 0, 0, and only what has a meaning?
func placeless(l []api.Item) bool {
	for _, x := range l {
		if x.At != (api.Spot{}) || !x.Block && len(x.Kids) > 0 || !placeless(x.Kids) {
			return false
		}
		for _, w := range x.Words {
			if w.At != (api.Spot{}) || !scan.Right(w) {
				return false
			}
		}
	}
	return true
}

// P17.1 to P17.3, of any config: whether it is right; its items and its print, which are compiled as it was; Form of another one.
func wantConfig(t *testing.T, c api.Config, right bool) {
	t.Helper()
	kept := copied(c)
	if modelRight(c) != right {
		t.Fatalf("%+v\nis to the model %v", c, !right)
	}
	if show.Right(c) != right {
		t.Fatalf("%+v\nis %v", c, !right)
	}
	if right {
		wantShown(t, c)
	} else {
		wantNotShown(t, c)
	}
	if !reflect.DeepEqual(c, kept) {
		t.Fatalf("%+v\nwas\n%+v", c, kept)
	}
}

func wantShown(t *testing.T, c api.Config) {
	t.Helper()
	s, code := show.Print(c)
	if want := modelPrint(c); code != api.Fine || s != want {
		t.Fatalf("%+v\nis printed, %v, as\n%s\nnot as\n%s", c, code, s, want)
	}
	l, code := show.Items(c)
	parsed, f := tree.Parse(s)
	if code != api.Fine || f != (api.Fault{}) || !layout.Same(l, parsed) || !placeless(l) || !layout.Right(l) {
		t.Fatalf("%s\nhas, %v %v, the items\n%+v", s, code, f, l)
	}
	if len(s) > 40000 || layout.Count(l) > 300 {
		t.Fatalf("%s\nis too long", s)
	}
	if d, f := compile.Read(s); len(f) > 0 || !sameConfig(d, c) {
		t.Fatalf("%s\nis compiled, %v, as\n%+v", s, f, d)
	}
	if d, f := compile.Compile(l); len(f) > 0 || !sameConfig(d, c) {
		t.Fatalf("%+v\nis compiled, %v, as\n%+v", l, f, d)
	}
}

func wantNotShown(t *testing.T, c api.Config) {
	t.Helper()
	if l, code := show.Items(c); len(l) > 0 || code != api.Form {
		t.Fatalf("%+v\nhas, %v, the items\n%+v", c, code, l)
	}
	if s, code := show.Print(c); s != "" || code != api.Form {
		t.Fatalf("%+v\nis printed, %v, as\n%s", c, code, s)
	}
	if len(c.Goals) < 100 {
		if d, f := compile.Read(modelPrint(c)); len(f) == 0 {
			t.Fatalf("%s\nis compiled as\n%+v", modelPrint(c), d)
		}
	}
}

// wantGoal: alone, and in a config at each place.
func wantGoal(t *testing.T, g api.Goal, right bool) {
	t.Helper()
	if show.RightGoal(g) != right {
		t.Fatalf("%+v\nis %v", g, !right)
	}
	for i := range 3 {
		wantConfig(t, aConfig(slices.Insert([]api.Goal{aGoal("other-1"), aGoal("other-2")}, i, g)...), right)
	}
}

// wantRule: alone, and, of a grain that a goal may have, in a goal at each place.
func wantRule(t *testing.T, r api.Rule, grain int64, right bool) {
	t.Helper()
	if show.RightRule(r, grain) != right {
		t.Fatalf("%+v, %d\nis %v", r, grain, !right)
	}
	other := func(name string) api.Rule {
		u := aRule(name)
		u.Long, u.Short = grain, grain
		return u
	}
	if modelRule(other("o"), grain) && grain <= 86400 {
		for i := range 4 {
			wantGoal(t, ruled(grain, slices.Insert([]api.Rule{other("other-1"), other("other-2"), other("other-3")}, i, r)...), right)
		}
	}
}

func wantLabel(t *testing.T, l api.Label, right bool) {
	t.Helper()
	for i := range 4 {
		wantGoal(t, labelled(slices.Insert([]api.Label{{Name: "other-1"}, {Name: "other-2", Text: "o"}, {Name: "other-3"}}, i, l)...), right)
	}
}
