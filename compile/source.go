package compile

import "firebell/api"

// source is a config on its way, with all faults up to here.
type source struct {
	faults
	config api.Config
}

// read a source's items.
func (s *source) read(l []api.Item) {
	s.config.Notify = api.Notify{Room: 16, First: 10, Cap: 300}
	s.each(l, handlers{
		"objective": s.objective,
		"notify":    s.notify,
	})
}

func (s *source) objective(x *item) {
	x.form(1, true)
	name := nameOf(x.Words[0])
	x.named(name, api.MaxGoals)
	g := goal{faults: &s.faults, Goal: api.Goal{Name: name, Grain: 60}}
	g.read(x)
	s.config.Goals = append(s.config.Goals, g.Goal)
}

func (s *source) notify(x *item) {
	x.form(0, true)
	x.once()
	n := &s.config.Notify
	s.each(x.Kids, handlers{
		"room":    count(&n.Room, 1, api.MaxRoom),
		"reserve": count(&n.Reserve, 0, api.MaxRoom),
		"first":   span(&n.First, 1, api.MaxGrain),
		"cap":     span(&n.Cap, 1, api.MaxWait),
		"repeat":  span(&n.Repeat, 0, api.MaxRepeat),
	})
	if n.Reserve > n.Room || n.Cap < n.First {
		s.add(api.Range, x.At)
	}
}

// goal is an objective on its way.
type goal struct {
	*faults
	api.Goal
	// places of its rules.
	places []api.Spot
}

// read an objective's items, and look at the whole.
func (g *goal) read(x *item) {
	g.each(x.Kids, handlers{
		"target":   number(shareOf, 1, api.Million-1, func(n uint64) { g.Target = uint32(n) }),
		"grain":    span(&g.Grain, 1, api.MaxGrain),
		"late":     span(&g.Late, 0, api.MaxGrain),
		"rolling":  span(&g.Rolling, 1, api.MaxWindow),
		"calendar": g.calendar,
		"label":    g.label,
		"rule":     g.rule,
	})
	// A number that may not be 0, but is, comes from no item that counts. And 0 is a multiple of each grain.
	if g.Target == 0 || len(g.Rules) == 0 {
		g.add(api.Form, x.At)
	}
	for i, r := range g.Rules {
		if r.Long%g.Grain != 0 || r.Short%g.Grain != 0 {
			g.add(api.Range, g.places[i])
		}
	}
	if g.Rolling%g.Grain != 0 {
		g.add(api.Range, x.At)
	}
}

func (g *goal) calendar(x *item) {
	x.form(1, false)
	kind := api.CalQuarter
	if first(x.Words[0], "month", "quarter") {
		kind = api.CalMonth
	}
	x.once()
	g.Calendar = kind
}

func (g *goal) label(x *item) {
	x.form(2, false)
	l := api.Label{Name: nameOf(x.Words[0]), Text: textOf(x.Words[1])}
	x.named(l.Name, api.MaxLabels)
	g.Labels = append(g.Labels, l)
}

func (g *goal) rule(x *item) {
	x.form(2, true)
	r := api.Rule{Name: nameOf(x.Words[0]), Page: first(x.Words[1], "page", "ticket")}
	x.named(r.Name, api.MaxRules)
	g.each(x.Kids, handlers{
		"long":   span(&r.Long, 1, api.MaxWindow),
		"short":  span(&r.Short, 1, api.MaxWindow),
		"factor": number(factorOf, 1, api.MaxFactor, func(n uint64) { r.Factor = n }),
		"for":    span(&r.For, 0, api.MaxWait),
		"keep":   span(&r.Keep, 0, api.MaxWait),
	})
	switch {
	case r.Long == 0 || r.Short == 0 || r.Factor == 0:
		g.add(api.Form, x.At)
	case r.Short > r.Long:
		g.add(api.Range, x.At)
	}
	g.Rules = append(g.Rules, r)
	g.places = append(g.places, x.At)
}
