package show

import "firebell/api"

func objective(g api.Goal) api.Item {
	kids := []api.Item{
		line("target", numberWord(api.TokShare, g.Target)),
		span("grain", g.Grain),
		span("late", g.Late),
	}
	if g.Rolling != 0 {
		kids = append(kids, span("rolling", g.Rolling))
	}
	if g.Calendar != api.CalNone {
		kids = append(kids, line("calendar", nameWord(calendar(g.Calendar))))
	}
	for _, l := range g.Labels {
		kids = append(kids, line("label", nameWord(l.Name), textWord(l.Text)))
	}
	for _, r := range g.Rules {
		kids = append(kids, rule(r))
	}
	return block("objective", kids, nameWord(g.Name))
}

func rule(r api.Rule) api.Item {
	return block("rule", []api.Item{
		span("long", r.Long),
		span("short", r.Short),
		line("factor", numberWord(api.TokFactor, r.Factor)),
		span("for", r.For),
		span("keep", r.Keep),
	}, nameWord(r.Name), nameWord(severity(r.Page)))
}

func notify(n api.Notify) api.Item {
	return block("notify", []api.Item{
		count("room", n.Room),
		count("reserve", n.Reserve),
		span("first", n.First),
		span("cap", n.Cap),
		span("repeat", n.Repeat),
	})
}

// calendar is how a goal's calendar is said, if it has one.
func calendar(kind int) string {
	if kind == api.CalMonth {
		return "month"
	}
	return "quarter"
}

// severity is how it is said whether a rule is of pages.
func severity(page bool) string {
	if page {
		return "page"
	}
	return "ticket"
}

// line is an item that is no block.
func line(name string, words ...api.Tok) api.Item {
	return api.Item{Name: name, Words: words}
}

func block(name string, kids []api.Item, words ...api.Tok) api.Item {
	return api.Item{Name: name, Words: words, Block: true, Kids: kids}
}

// span is an item of one span.
func span(name string, n int64) api.Item {
	return line(name, numberWord(api.TokSpan, n))
}

// count is an item of one count.
func count(name string, n int) api.Item {
	return line(name, numberWord(api.TokCount, n))
}

func nameWord(s string) api.Tok {
	return api.Tok{Kind: api.TokName, Text: s}
}

func textWord(s string) api.Tok {
	return api.Tok{Kind: api.TokText, Text: s}
}

func numberWord[N whole](kind int, n N) api.Tok {
	return api.Tok{Kind: kind, N: uint64(n)}
}
