package change

import (
	"slices"

	"firebell/api"
)

// one is the first of a list for which something holds.
func one[T any](l []T, holds func(T) bool) (T, bool) {
	if i := slices.IndexFunc(l, holds); i >= 0 {
		return l[i], true
	}
	var none T
	return none, false
}

func goalNamed(l []api.Goal, name string) (api.Goal, bool) {
	return one(l, func(g api.Goal) bool { return g.Name == name })
}

func ruleNamed(l []api.Rule, name string) (api.Rule, bool) {
	return one(l, func(r api.Rule) bool { return r.Name == name })
}

// inOne: the turns of a goal that one config alone has; its rules share its lot.
func inOne(g api.Goal, kind int) []api.Turn {
	l := []api.Turn{{Goal: g.Name, Kind: kind}}
	for _, r := range g.Rules {
		l = append(l, api.Turn{Goal: g.Name, Rule: r.Name, Kind: kind})
	}
	return l
}

// inBoth: the turns of a goal that both configs have.
func inBoth(old, now api.Goal) []api.Turn {
	same := sameCounts(old, now)
	l := []api.Turn{{Goal: now.Name, Kind: stays(same)}}
	for _, r := range now.Rules {
		kind := api.TurnComes
		if before, ok := ruleNamed(old.Rules, r.Name); ok {
			kind = stays(same && before == r)
		}
		l = append(l, api.Turn{Goal: now.Name, Rule: r.Name, Kind: kind})
	}
	for _, r := range old.Rules {
		if _, ok := ruleNamed(now.Rules, r.Name); !ok {
			l = append(l, api.Turn{Goal: now.Name, Rule: r.Name, Kind: api.TurnGoes})
		}
	}
	return l
}

// sameCounts: would all that was counted for the one serve the other one?
func sameCounts(a, b api.Goal) bool {
	return a.Grain == b.Grain && a.Calendar == b.Calendar && slices.Equal(Windows(a), Windows(b))
}

// stays, or turns.
func stays(same bool) int {
	if same {
		return api.TurnStays
	}
	return api.TurnTurns
}
