package change_test

import (
	"math"
	"math/rand"
	"slices"
	"strings"
	"testing"

	"firebell/api"
	"firebell/change"
	"firebell/compile"
	"firebell/show"
)

// maker of configs of few names and few numbers, so that many are alike.
type maker struct{ *rand.Rand }

func (m maker) names(l ...string) []string {
	m.Shuffle(len(l), func(i, k int) { l[i], l[k] = l[k], l[i] })
	return l
}

func (m maker) rule(name string) api.Rule {
	long := []int64{60, 120, 120, 240}[m.Intn(4)]
	r := api.Rule{Name: name, Long: long, Short: min(long, []int64{60, 60, 120}[m.Intn(3)]), Factor: 1}
	if m.Intn(8) == 0 {
		r.Page, r.Factor, r.For, r.Keep = m.Intn(2) == 0, uint64(1+m.Intn(2)), int64(m.Intn(2)), int64(m.Intn(2))
	}
	return r
}

func (m maker) goal(name string) api.Goal {
	g := api.Goal{Name: name, Target: uint32(1 + m.Intn(2)), Grain: 60, Late: int64(m.Intn(2))}
	for _, s := range m.names("r", "s", "t", "u", "é")[:1+m.Intn(4)] {
		g.Rules = append(g.Rules, m.rule(s))
	}
	if m.Intn(3) == 0 {
		g.Rolling = []int64{60, 120, 240, 360}[m.Intn(4)]
	}
	if m.Intn(8) == 0 {
		g.Grain = 30
	}
	if m.Intn(8) == 0 {
		g.Calendar = m.Intn(3)
	}
	return g
}

func (m maker) config() api.Config {
	c := aConfig()
	for _, s := range m.names("a", "b", "c", "d", "e", "ω", "r", "s")[:m.Intn(7)] {
		c.Goals = append(c.Goals, m.goal(s))
	}
	return c
}

// other config, that is near to one.
func (m maker) other(c api.Config) api.Config {
	c = copied(c)
	m.Shuffle(len(c.Goals), func(i, k int) { c.Goals[i], c.Goals[k] = c.Goals[k], c.Goals[i] })
	for i := range c.Goals {
		g := &c.Goals[i]
		m.Shuffle(len(g.Rules), func(i, k int) { g.Rules[i], g.Rules[k] = g.Rules[k], g.Rules[i] })
		k := m.Intn(len(g.Rules))
		switch m.Intn(9) {
		case 0:
			g.Rules[k] = m.rule(g.Rules[k].Name)
		case 1:
			g.Rules[k].Keep = 7
		case 2:
			g.Rules[k].Name = "w"
		case 3:
			g.Rules = slices.Delete(g.Rules, k, min(k+1, len(g.Rules)-1+k))
		case 4:
			*g = m.goal(g.Name)
		case 5:
			g.Name += "x"
		case 6:
			g.Target, g.Late, g.Labels = 7, 7, []api.Label{{Name: "a"}}
		case 7:
			g.Rolling = []int64{0, 60, 120, 240}[m.Intn(4)]
		}
	}
	return c
}

// P18.1, P18.2 and P18.4 of any right configs.
func TestAnyPlan(t *testing.T) {
	m := maker{rand.New(rand.NewSource(181))}
	var told [4]int
	for i := range 6000 {
		old := m.config()
		now := m.other(old)
		if i%3 == 0 {
			now = m.config()
		}
		if !show.Right(old) || !show.Right(now) {
			t.Fatalf("%+v\n%+v", old, now)
		}
		l := modelPlan(old, now)
		wantPlan(t, old, now, lines(l))
		for k, n := range change.Tally(l) {
			told[k] += n
		}
		for _, g := range now.Goals {
			wantWindows(t, g, modelWindows(g)...)
		}
	}
	if slices.Min(told[:]) < 10000 {
		t.Error(told)
	}
}

// P18.2: one of the numbers or the names of one config is another one; Arg, if that isn't right.
func TestAnyConfig(t *testing.T) {
	m := maker{rand.New(rand.NewSource(182))}
	rights := 0
	for range 6000 {
		old, now := m.config(), m.config()
		m.spoil(&now)
		if m.Intn(8) == 0 {
			m.spoil(&old)
		}
		if m.Intn(2) == 0 {
			old, now = now, old
		}
		if !show.Right(old) || !show.Right(now) {
			wantNoPlan(t, old, now)
			continue
		}
		rights++
		wantPlan(t, old, now, lines(modelPlan(old, now)))
	}
	if rights < 1000 || rights > 5000 {
		t.Error(rights)
	}
}

func (m maker) spoil(c *api.Config) {
	n := []int64{-60, -1, 0, 1, 30, 60, 61, 120, 86460, 34560060, math.MinInt64, math.MaxInt64}[m.Intn(12)]
	name := []string{"", "1", "a", "r", "ω", "a b", "\xff", strings.Repeat("ω", 25)}[m.Intn(8)]
	if len(c.Goals) == 0 {
		c.Notify.Room = int(n)
		return
	}
	g := &c.Goals[m.Intn(len(c.Goals))]
	r := &g.Rules[m.Intn(len(g.Rules))]
	switch m.Intn(12) {
	case 0:
		g.Name = name
	case 1:
		g.Grain = n
	case 2:
		g.Rolling = n
	case 3:
		g.Calendar = int(n)
	case 4:
		g.Target = uint32(n)
	case 5:
		r.Name = name
	case 6:
		r.Long = n
	case 7:
		r.Short = n
	case 8:
		r.Factor = uint64(n)
	case 9:
		r.For, r.Keep = n, n
	case 10:
		g.Labels = []api.Label{{Name: name, Text: name}}
	case 11:
		c.Notify.Cap = n
	}
}

// P18.4: what is printed of a config and compiled leaves all as it is.
func TestAnyCompiled(t *testing.T) {
	m := maker{rand.New(rand.NewSource(183))}
	for range 300 {
		c := m.config()
		s, _ := show.Print(c)
		d, faults := compile.Read(s)
		if len(faults) > 0 {
			t.Fatal(faults)
		}
		l, code := change.Plan(c, d)
		if n := change.Tally(l); code != api.Fine || n != [4]int{1: len(l)} || n != change.Tally(modelPlan(c, c)) {
			t.Fatalf("%+v\nbecomes by, %v,\n%s", c, code, lines(l))
		}
	}
}

// P18.1 of any goals, right or not.
func TestAnyWindows(t *testing.T) {
	r := rand.New(rand.NewSource(184))
	number := func() int64 {
		return []int64{math.MinInt64, math.MaxInt64, -1, 0, 1, int64(r.Intn(9) - 4), int64(r.Uint64())}[r.Intn(7)]
	}
	for range 20000 {
		g := api.Goal{Name: "1", Rolling: number(), Grain: number()}
		for range r.Intn(7) {
			g.Rules = append(g.Rules, api.Rule{Long: number(), Short: number(), For: number()})
		}
		wantWindows(t, g, modelWindows(g)...)
	}
}

// P18.2 and P18.3 of any turns, right or not.
func TestAnyTurns(t *testing.T) {
	r := rand.New(rand.NewSource(185))
	rights := 0
	for range 20000 {
		var l []api.Turn
		for range r.Intn(6) {
			x := turn(1+r.Intn(4), []string{"a", "b", "é", "goes"}[r.Intn(4)], []string{"", "", "a", "r", "ω"}[r.Intn(5)])
			switch r.Intn(24) {
			case 0:
				x.Kind = []int{0, 5, -1, math.MinInt, math.MaxInt}[r.Intn(5)]
			case 1:
				x.Goal = append(wrongNames(), "")[r.Intn(len(wrongNames())+1)]
			case 2:
				x.Rule = wrongNames()[r.Intn(len(wrongNames()))]
			}
			l = append(l, x)
		}
		right := modelRight(l)
		if right {
			rights++
		}
		wantTurns(t, l, right)
		for _, x := range []api.Turn{turn(0, "a", "r"), turn(0, "é", ""), turn(0, "", ""), turn(0, "b", "ω")} {
			if n := change.Find(l, x.Goal, x.Rule); n != modelFind(l, x.Goal, x.Rule) {
				t.Fatalf("%+v is found as %d in\n%+v", x, n, l)
			}
		}
	}
	if rights < 10000 || rights > 18000 {
		t.Error(rights)
	}
}

// P18.3 of any texts, most of them almost right.
func TestAnyTexts(t *testing.T) {
	r := rand.New(rand.NewSource(186))
	pieces := []string{"comes", "stays", "turns", "goes", " ", " ", "\n", "a", "b", "é", "1", "-", "\t", "\r", "\xff", "  ", " a", " r\n", "", "\n\n", "Goes", "comes a\n"}
	rights := 0
	for range 60000 {
		var b strings.Builder
		for range r.Intn(4) {
			b.WriteString(pieces[r.Intn(4)] + " " + pieces[7+r.Intn(3)])
			if r.Intn(2) == 0 {
				b.WriteString(" " + pieces[7+r.Intn(3)])
			}
			b.WriteString("\n")
		}
		s := b.String()
		for range r.Intn(3) {
			i := r.Intn(len(s) + 1)
			k := min(i+r.Intn(3), len(s))
			s = s[:i] + pieces[r.Intn(len(pieces))] + s[k:]
		}
		if l, ok := modelRead(s); ok {
			rights++
			wantRead(t, s, l...)
			if again, code := change.Print(l); again != s || code != api.Fine {
				t.Fatalf("%q is printed, %v, as %q", s, code, again)
			}
		} else {
			wantNoRead(t, s)
		}
	}
	if rights < 20000 || rights > 50000 {
		t.Error(rights)
	}
}
