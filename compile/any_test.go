package compile_test

import (
	"cmp"
	"math/rand"
	"reflect"
	"slices"
	"strings"
	"testing"

	"firebell/api"
	"firebell/compile"
	"firebell/layout"
)

func name(s string) api.Tok { return api.Tok{Kind: api.TokName, Text: s} }

func quoted(s string) api.Tok { return api.Tok{Kind: api.TokText, Text: s} }

func number(kind int, n uint64) api.Tok { return api.Tok{Kind: kind, N: n} }

func item(name string, words ...api.Tok) api.Item { return api.Item{Name: name, Words: words} }

func block(head api.Item, kids []api.Item) api.Item {
	head.Block, head.Kids = true, kids
	return head
}

// anyNames are so many names, all unlike.
func anyNames(r *rand.Rand, n int) []string {
	all := []string{"a", "b", "A", "Жук", "é", "web-1", "web_1", "target", "rule", "page", "notify", strings.Repeat("ω", 24)}
	r.Shuffle(len(all), func(i, k int) { all[i], all[k] = all[k], all[i] })
	return all[:n]
}

// between two numbers, often one of them.
func between(r *rand.Rand, least, most int64) int64 {
	switch r.Intn(4) {
	case 0:
		return least
	case 1:
		return most
	}
	return least + r.Int63n(most-least+1)
}

// window of a rule, as a multiple of the grain.
func window(r *rand.Rand, grain, most int64) int64 { return grain * between(r, 1, most/grain) }

// anyConfig is one that can be said.
func anyConfig(r *rand.Rand) api.Config {
	c := api.Config{Notify: plain()}
	if r.Intn(3) > 0 {
		c.Notify = api.Notify{Room: int(between(r, 1, 64)), First: between(r, 1, 86400), Repeat: between(r, 0, 2592000)}
		c.Notify.Reserve, c.Notify.Cap = int(between(r, 0, int64(c.Notify.Room))), between(r, c.Notify.First, 604800)
	}
	for _, s := range anyNames(r, r.Intn(7)) {
		g := api.Goal{Name: s, Target: uint32(between(r, 1, 999999)), Grain: 60, Calendar: r.Intn(3)}
		if r.Intn(3) > 0 {
			g.Grain, g.Late = between(r, 1, 86400), between(r, 0, 86400)
		}
		if r.Intn(2) > 0 {
			g.Rolling = window(r, g.Grain, 34560000)
		}
		for _, s := range anyNames(r, r.Intn(5)) {
			g.Labels = append(g.Labels, api.Label{Name: s, Text: []string{"", "x", "é\n\"\\", strings.Repeat("\x7f", 120)}[r.Intn(4)]})
		}
		for _, s := range anyNames(r, 1+r.Intn(4)) {
			long := window(r, g.Grain, 34560000)
			g.Rules = append(g.Rules, api.Rule{Name: s, Page: r.Intn(2) > 0, Long: long, Short: window(r, g.Grain, long), Factor: uint64(between(r, 1, 1000000)), For: between(r, 0, 604800), Keep: between(r, 0, 604800)})
		}
		c.Goals = append(c.Goals, g)
	}
	return c
}

// saying is a list of items that say something, some of which needn't be said.
type saying struct {
	r     *rand.Rand
	items []api.Item
}

// span, which needn't be said if it is what holds anyway.
func (s *saying) span(name string, n, anyway int64) {
	if n != anyway || s.r.Intn(2) > 0 {
		s.items = append(s.items, item(name, number(api.TokSpan, uint64(n))))
	}
}

func (s *saying) count(name string, n, anyway int) {
	if n != anyway || s.r.Intn(2) > 0 {
		s.items = append(s.items, item(name, number(api.TokCount, uint64(n))))
	}
}

// mixed: the items in another order, in which those of one name stay in theirs.
func mixed(r *rand.Rand, l []api.Item) []api.Item {
	byName := map[string][]api.Item{}
	for _, x := range l {
		byName[x.Name] = append(byName[x.Name], x)
	}
	var other []api.Item
	for _, i := range r.Perm(len(l)) {
		name := l[i].Name
		x := byName[name][0]
		byName[name] = byName[name][1:]
		if x.Block {
			x.Kids = mixed(r, x.Kids)
		}
		other = append(other, x)
	}
	return other
}

// itemsOf a config, in any order, without places.
func itemsOf(r *rand.Rand, c api.Config) []api.Item {
	var all []api.Item
	for _, g := range c.Goals {
		s := saying{r: r}
		s.items = append(s.items, item("target", number(api.TokShare, uint64(g.Target))))
		s.span("grain", g.Grain, 60)
		s.span("late", g.Late, 0)
		if g.Rolling > 0 {
			s.span("rolling", g.Rolling, 0)
		}
		if g.Calendar > 0 {
			s.items = append(s.items, item("calendar", name([]string{"month", "quarter"}[g.Calendar-1])))
		}
		for _, l := range g.Labels {
			s.items = append(s.items, item("label", name(l.Name), quoted(l.Text)))
		}
		for _, u := range g.Rules {
			s.items = append(s.items, ruleOf(r, u))
		}
		all = append(all, block(item("objective", name(g.Name)), s.items))
	}
	n, s := c.Notify, saying{r: r}
	s.count("room", n.Room, 16)
	s.count("reserve", n.Reserve, 0)
	s.span("first", n.First, 10)
	s.span("cap", n.Cap, 300)
	s.span("repeat", n.Repeat, 0)
	if len(s.items) > 0 || r.Intn(2) > 0 {
		all = append(all, block(item("notify"), s.items))
	}
	return mixed(r, all)
}

func ruleOf(r *rand.Rand, u api.Rule) api.Item {
	s := saying{r: r}
	s.span("long", u.Long, 0)
	s.span("short", u.Short, 0)
	s.span("for", u.For, 0)
	s.span("keep", u.Keep, 0)
	factor := number(api.TokFactor, u.Factor)
	if u.Factor%1000 == 0 && r.Intn(2) > 0 {
		factor = number(api.TokCount, u.Factor/1000)
	}
	s.items = append(s.items, item("factor", factor))
	who := map[bool]string{true: "page", false: "ticket"}[u.Page]
	return block(item("rule", name(u.Name), name(who)), s.items)
}

// P16.1: any config is told by its items, in whatever order they stand, and by their print.
func TestAnyConfig(t *testing.T) {
	r := rand.New(rand.NewSource(161))
	for range 1500 {
		c := anyConfig(r)
		l := itemsOf(r, c)
		wantTree(t, l, c, nil)
		wantTree(t, mixed(r, l), c, nil)
		s, code := layout.Print(l)
		if code != api.Fine {
			t.Fatal(modelText(l), code)
		}
		wantConfig(t, s, c)
	}
}

// anyWord of any kind.
func anyWord(r *rand.Rand) api.Tok {
	switch r.Intn(6) {
	case 0:
		return name([]string{"a", "b", "page", "ticket", "month", "quarter"}[r.Intn(6)])
	case 1:
		return quoted([]string{"", "a", "é"}[r.Intn(3)])
	case 2:
		return number(api.TokShare, uint64(between(r, 0, 1000000)))
	case 3:
		return number(api.TokSpan, uint64([]int64{between(r, 0, 200), 60 * between(r, 0, 20000), between(r, 0, api.MaxTick)}[r.Intn(3)]))
	case 4:
		return number(api.TokCount, []uint64{0, 1, uint64(r.Intn(70)), 1000, 1001, r.Uint64()}[r.Intn(6)])
	}
	return number(api.TokFactor, []uint64{0, 1, uint64(r.Intn(1000002)), 1000000, 1000001, r.Uint64()}[r.Intn(6)])
}

// near: an item that might be said at a place, mostly as it should be.
func near(r *rand.Rand, place string, left *int) api.Item {
	all := sorts()
	s := all[r.Intn(len(all))]
	for s.place != place && r.Intn(30) > 0 {
		s = all[r.Intn(len(all))]
	}
	x := api.Item{Name: s.name, Block: s.body != "", At: api.Spot{Line: 1 + r.Intn(99), Col: 1 + r.Intn(99)}}
	if r.Intn(60) == 0 {
		x.Name = []string{"foo", "Target", "page", "x"}[r.Intn(4)]
	}
	for _, w := range s.words {
		x.Words = append(x.Words, nearWord(r, w))
	}
	switch r.Intn(60) {
	case 0:
		x.Words = append(x.Words, anyWord(r))
	case 1:
		x.Words = x.Words[:r.Intn(1+len(x.Words))]
	case 2:
		x.Block = !x.Block
	}
	if x.Block && s.place != "rule" {
		x.Kids = nearItems(r, x.Name, left)
	}
	return x
}

// nearWord: another one for a word that may stand there, mostly of its kind.
func nearWord(r *rand.Rand, w string) api.Tok {
	names := []string{"a", "b", "c", "d", "e", "f", "g", "h"}
	switch {
	case r.Intn(80) == 0:
		return anyWord(r)
	case w == "s":
		return name(names[r.Intn(len(names))])
	case w == "page" || w == "ticket" || w == "month" || w == "quarter":
		return name(w)
	case strings.HasPrefix(w, `"`):
		return quoted(names[r.Intn(len(names))])
	case strings.HasSuffix(w, "%"):
		return number(api.TokShare, uint64(between(r, 0, 1000000)))
	case strings.Contains(w, "."):
		return number(api.TokFactor, uint64(r.Intn(1100000)))
	case strings.ContainsAny(w, "smh"):
		return number(api.TokSpan, []uint64{60, 120, 600, 3600, uint64(r.Intn(400)), uint64(60 * r.Intn(2000)), uint64(r.Intn(40000000))}[r.Intn(7)])
	}
	return number(api.TokCount, uint64(r.Intn(70)))
}

// nearItems of a block's name, or of a source, as many as are left at the most.
func nearItems(r *rand.Rand, place string, left *int) []api.Item {
	var l []api.Item
	for range r.Intn(map[string]int{"source": 9, "objective": 12}[place] + 6) {
		if *left == 0 {
			return l
		}
		*left--
		l = append(l, near(r, place, left))
	}
	return l
}

// sorted faults: by place, then by code.
func sorted(l []api.Fault) []api.Fault {
	l = slices.Clone(l)
	slices.SortFunc(l, func(a, b api.Fault) int {
		return cmp.Or(a.At.Line-b.At.Line, a.At.Col-b.At.Col, int(a.Code-b.Code))
	})
	return l
}

// P16.1 and P16.2: any trees that are nearly right, against the model, and in other orders.
func TestAnyTree(t *testing.T) {
	r := rand.New(rand.NewSource(162))
	codes := map[api.Code]int{}
	for range 3000 {
		left := 300
		l := nearItems(r, "source", &left)
		if !layout.Right(l) {
			wantNotRight(t, l)
			continue
		}
		c, faults := model(l)
		wantTree(t, l, c, faults)
		wantTree(t, layout.Bare(l), c, nowhere(faults))
		for _, f := range faults {
			codes[f.Code]++
		}
		other := mixed(r, l)
		otherC, otherF := compile.Compile(other)
		if !sameConfig(otherC, c) || !slices.Equal(sorted(otherF), sorted(faults)) {
			t.Fatalf("%s\nin another order has %v, %v, not %v, %v", modelText(other), otherC, otherF, c, faults)
		}
	}
	for _, c := range []api.Code{api.Name, api.Form, api.Known, api.Long, api.Range} {
		if codes[c] < 50 {
			t.Error(c, codes[c])
		}
	}
}

// P16.1: any config's tree with one thing spoiled, or some.
func TestSpoiledTree(t *testing.T) {
	r := rand.New(rand.NewSource(163))
	fine, wrong := 0, 0
	for range 4000 {
		l := itemsOf(r, anyConfig(r))
		for range 1 + r.Intn(3) {
			left := 20
			spoil(r, &l, "source", &left)
		}
		if !layout.Right(l) {
			wantNotRight(t, l)
			continue
		}
		line := 0
		place(l, &line)
		c, faults := model(l)
		wantTree(t, l, c, faults)
		if len(faults) == 0 {
			fine++
		} else if len(faults) < 4 {
			wrong++
		}
	}
	if fine < 200 || wrong < 1000 {
		t.Error(fine, wrong)
	}
}

// spoil a list of items at a place, or the kids of one of them.
func spoil(r *rand.Rand, l *[]api.Item, at string, left *int) {
	i := r.Intn(1 + len(*l))
	if i == len(*l) {
		*l = append(*l, near(r, at, left))
		return
	}
	x := &(*l)[i]
	if x.Block && r.Intn(4) > 0 {
		spoil(r, &x.Kids, x.Name, left)
		return
	}
	switch r.Intn(6) {
	case 0:
		*l = slices.Delete(*l, i, i+1)
	case 1:
		*l = slices.Insert(*l, r.Intn(1+len(*l)), *x)
	case 2:
		*x = near(r, at, left)
	case 3:
		*l = slices.Insert(*l, i, near(r, at, left))
	case 4:
		if len(x.Words) > 0 {
			x.Words[r.Intn(len(x.Words))] = anyWord(r)
		}
	case 5:
		if len(x.Words) > 0 && x.Words[0].Kind == api.TokSpan {
			x.Words[0].N++
		}
	}
}

// place each item on a line of its own.
func place(l []api.Item, line *int) {
	for i := range l {
		*line++
		l[i].At = api.Spot{Line: *line, Col: 1}
		place(l[i].Kids, line)
	}
}

// P16.2: configs one behind the other have all goals.
func TestOneBehindTheOther(t *testing.T) {
	r := rand.New(rand.NewSource(164))
	for range 500 {
		all := anyConfig(r)
		cut := r.Intn(1 + len(all.Goals))
		a, b := api.Config{Goals: all.Goals[:cut], Notify: all.Notify}, api.Config{Goals: all.Goals[cut:], Notify: plain()}
		// Of b's items those of the notify are left out: it stands in a.
		front, behind := itemsOf(r, a), slices.DeleteFunc(itemsOf(r, b), func(x api.Item) bool { return x.Name == "notify" })
		wantTree(t, slices.Concat(front, behind), all, nil)
		s1, _ := layout.Print(front)
		s2, _ := layout.Print(behind)
		wantConfig(t, s1+"\n# more\n"+s2, all)
		swapped := api.Config{Goals: slices.Concat(b.Goals, a.Goals), Notify: all.Notify}
		wantConfig(t, s2+s1, swapped)
		wantTree(t, slices.Concat(behind, front), swapped, nil)
	}
	wantConfig(t, named(anObjective, "a")+" "+named(anObjective, "b"), func() api.Config {
		c := wantGood(t, named(anObjective, "a"))
		c.Goals = append(c.Goals, wantGood(t, named(anObjective, "b")).Goals...)
		return c
	}())
}

// P16.2: all orders of a few items of unlike names.
func TestAllOrders(t *testing.T) {
	lines := []string{"target 99%;", "grain 10s;", "rolling 30s;", "rule r page { factor 2; short 10s; long 20s; }", "calendar month;"}
	want := wantGood(t, "objective o { "+strings.Join(lines, " ")+" }")
	orders(lines, func(l []string) { wantConfig(t, "objective o { "+strings.Join(l, "\n")+" }", want) })
	lines = []string{"long 5m;", "short 1m;", "factor 0.5;", "for 1s;", "keep 2s;"}
	want = wantGood(t, "objective o { target 1%; rule r page { "+strings.Join(lines, " ")+" } }")
	orders(lines, func(l []string) {
		wantConfig(t, "objective o { target 1%; rule r page { "+strings.Join(l, "\n")+" } }", want)
	})
	lines = []string{"room 7;", "reserve 7;", "first 9s;", "cap 9s;", "repeat 1s;"}
	want = wantGood(t, "notify { "+strings.Join(lines, " ")+" }")
	orders(lines, func(l []string) { wantConfig(t, "notify { "+strings.Join(l, "\n")+" }", want) })
}

// orders of a list, each handed on.
func orders(l []string, each func([]string)) {
	var choose func(k int)
	choose = func(k int) {
		if k == len(l) {
			each(l)
			return
		}
		for i := k; i < len(l); i++ {
			l[k], l[i] = l[i], l[k]
			choose(k + 1)
			l[k], l[i] = l[i], l[k]
		}
	}
	choose(0)
}

// What is told shares no memory with what was handed in, nor with another answer, and no two lists of it share any.
func TestAnswersAreTheCallers(t *testing.T) {
	source := named("objective NAME { target 99%;\n"+`label a "x"; label b "y"; rule a page { `+bothWindows+" } rule b ticket { "+bothWindows+" } rule c page { "+bothWindows+" } }", "a", "b", "c")
	source = strings.ReplaceAll(source, "objective b { target 99%;\n"+`label a "x"; label b "y";`, "objective b { target 99%;")
	want := wantGood(t, source)
	l := parsed(t, source)
	got, _ := compile.Compile(l)
	other, _ := compile.Compile(l)
	for i := range l {
		for k := range l[i].Kids {
			l[i].Kids[k].Words[0] = name("gone")
			l[i].Kids[k].Kids = nil
		}
		l[i] = api.Item{Name: "gone"}
	}
	if !sameConfig(got, want) {
		t.Fatal("with what was handed in", got)
	}
	for _, g := range got.Goals {
		_ = append(g.Labels, api.Label{Name: "behind"}, api.Label{Name: "behind"})
		_ = append(g.Rules, api.Rule{Name: "behind"}, api.Rule{Name: "behind"})
	}
	_ = append(got.Goals, api.Goal{Name: "behind"})
	if !sameConfig(got, want) {
		t.Fatal("with each other", got)
	}
	for i := range got.Goals {
		clear(got.Goals[i].Labels)
		clear(got.Goals[i].Rules)
	}
	clear(got.Goals)
	if !sameConfig(other, want) {
		t.Fatal("with another answer", other)
	}
	_, f := compile.Read("no; objective a {}")
	_, g := compile.Read("no; objective a {}")
	clear(f)
	if reflect.DeepEqual(f, g) || len(g) != 2 || g[0].Code != api.Name || g[1].Code != api.Form {
		t.Error(f, g)
	}
}
