package show_test

import (
	"math"
	"math/rand"
	"strings"
	"testing"

	"firebell/api"
	"firebell/compile"
	"firebell/show"
)

// maker of configs: one of so many of their parts isn't as it should be.
type maker struct {
	*rand.Rand
	wrongOne int
}

func (m maker) wrong() bool { return m.Intn(m.wrongOne) == 0 }

// number between two others, often one of them, or one that isn't.
func (m maker) number(least, most int64) int64 {
	if m.wrong() {
		return []int64{least - 1, most + 1, -1, -most, math.MinInt64, math.MaxInt64, 1<<32 + least}[m.Intn(7)]
	}
	switch m.Intn(4) {
	case 0:
		return least
	case 1:
		return most
	}
	return least + m.Int63n(min(max(most-least, 0), math.MaxInt64-1)+1)
}

// multiple of a grain between two numbers, or another one.
func (m maker) multiple(grain, least, most int64) int64 {
	if m.wrong() || grain < 1 || grain > most {
		return m.number(least, max(most, least))
	}
	lowest := (least + grain - 1) / grain
	return grain * (lowest + m.Int63n(min(max(most/grain-lowest, 0), math.MaxInt64-1)+1))
}

// many: a number of items, of which there may be so many.
func (m maker) many(least, most int) int {
	if m.wrong() {
		return m.Intn(most + 3)
	}
	return least + m.Intn(most-least+1)
}

// names, all unlike, or not.
func (m maker) names(n int) []string {
	all := []string{"a", "b", "A", "Жук", "é", "web-1", "web_1", "target", "rule", "page", "notify", strings.Repeat("ω", 24)}
	m.Shuffle(len(all), func(i, k int) { all[i], all[k] = all[k], all[i] })
	for i := range n {
		if m.wrong() {
			all[i] = []string{"", "1", "a-", "a b", "\xff", strings.Repeat("ω", 25), all[m.Intn(n)]}[m.Intn(7)]
		}
	}
	return all[:n]
}

func (m maker) text() string {
	if m.wrong() {
		return []string{"\xff", strings.Repeat("é", 121), strings.Repeat("é", 119) + "\xc3\xc3", "a\xed\xa0\x80"}[m.Intn(4)]
	}
	if m.Intn(3) == 0 {
		return []string{"", "x", "é\n\"\\", strings.Repeat("\x7f", 120)}[m.Intn(4)]
	}
	var b strings.Builder
	for range m.Intn(120) {
		r := []rune{'a', '"', '\\', '\n', '\t', 0, 0x1f, ' ', 0x7f, 0x80, 'é', '}', '#', 0xd7ff, 0xe000, 0xfffd, 0x10ffff, rune(m.Intn(0xd800))}
		b.WriteRune(r[m.Intn(len(r))])
	}
	return b.String()
}

func (m maker) rule(name string, grain int64) api.Rule {
	r := api.Rule{Name: name, Page: m.Intn(2) == 0, Factor: uint64(m.number(1, 1000000)), For: m.number(0, 604800), Keep: m.number(0, 604800)}
	r.Long = m.multiple(grain, 1, 34560000)
	r.Short = m.multiple(grain, 1, r.Long)
	return r
}

func (m maker) goal(name string) api.Goal {
	g := api.Goal{Name: name, Target: uint32(m.number(1, 999999)), Grain: m.number(1, 86400), Late: m.number(0, 86400), Calendar: int(m.number(0, 2))}
	if m.Intn(2) == 0 {
		g.Rolling = m.multiple(g.Grain, 1, 34560000)
	}
	for _, s := range m.names(m.many(0, 4)) {
		g.Labels = append(g.Labels, api.Label{Name: s, Text: m.text()})
	}
	for _, s := range m.names(m.many(1, 4)) {
		g.Rules = append(g.Rules, m.rule(s, g.Grain))
	}
	return g
}

func (m maker) config() api.Config {
	c := api.Config{Notify: api.Notify{Room: int(m.number(1, 64)), First: m.number(1, 86400), Repeat: m.number(0, 2592000)}}
	c.Notify.Reserve, c.Notify.Cap = int(m.number(0, int64(max(c.Notify.Room, 0)))), m.number(max(c.Notify.First, 0), 604800)
	for _, s := range m.names(m.many(0, 6)) {
		c.Goals = append(c.Goals, m.goal(s))
	}
	return c
}

// P17.1 to P17.3, of any right configs.
func TestAnyRight(t *testing.T) {
	m := maker{rand.New(rand.NewSource(171)), math.MaxInt}
	for range 2000 {
		c := m.config()
		wantConfig(t, c, true)
		again(t, c)
		for _, g := range c.Goals {
			if !show.RightGoal(g) {
				t.Fatalf("%+v", g)
			}
			for _, r := range g.Rules {
				if !show.RightRule(r, g.Grain) || show.RightRule(r, 0) || show.RightRule(r, -g.Grain) {
					t.Fatalf("%+v %d", r, g.Grain)
				}
			}
		}
	}
}

// P17.1 and P17.2, of any configs of which some are right, by the model, and by what compile says of what is written so.
func TestAnyConfig(t *testing.T) {
	m := maker{rand.New(rand.NewSource(172)), 100}
	right := 0
	for range 6000 {
		c := m.config()
		if modelRight(c) {
			right++
		}
		wantConfig(t, c, modelRight(c))
		for _, g := range c.Goals {
			if show.RightGoal(g) != modelGoal(g) {
				t.Fatalf("%+v", g)
			}
			for _, r := range g.Rules {
				for _, grain := range []int64{g.Grain, 1, 60, 0, r.Short, r.Long, -g.Grain} {
					if show.RightRule(r, grain) != modelRule(r, grain) {
						t.Fatalf("%+v %d", r, grain)
					}
				}
			}
		}
	}
	if right < 1000 || right > 5000 {
		t.Error(right)
	}
}

// P17.3: what was compiled, whatever its source is, is right.
func TestAnyCompiled(t *testing.T) {
	r := rand.New(rand.NewSource(173))
	m := maker{r, math.MaxInt}
	compiled := 0
	for range 4000 {
		lines := strings.SplitAfter(modelPrint(m.config()), "\n")
		for range r.Intn(3) {
			spoilLine(r, lines)
		}
		c, f := compile.Read(strings.Join(lines, ""))
		if len(f) > 0 {
			continue
		}
		compiled++
		wantConfig(t, c, true)
		again(t, c)
	}
	if compiled < 1500 || compiled > 3500 {
		t.Error(compiled)
	}
}

// spoilLine: a line is left out, said twice, or changes its place; or a number of it is another.
func spoilLine(r *rand.Rand, lines []string) {
	i, k := r.Intn(len(lines)), r.Intn(len(lines))
	switch r.Intn(4) {
	case 0:
		lines[i] = ""
	case 1:
		lines[i], lines[k] = lines[k], lines[i]
	case 2:
		k = min(i+1, len(lines)-1)
		lines[i], lines[k] = lines[k], lines[i]
	case 3:
		lines[i] = strings.NewReplacer("0", "1", "1", "2", "s;", "m;", "m;", "s;", "page", "ticket", "month", "quarter").Replace(lines[i])
	}
}
