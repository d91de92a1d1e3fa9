package change

import (
	"slices"
	"strings"

	"firebell/api"
	"firebell/text"
)

// words of the kinds, from TurnComes on.
func words() []string {
	return []string{"comes", "stays", "turns", "goes"}
}

func known(kind int) bool {
	return kind >= api.TurnComes && kind <= api.TurnGoes
}

func right(t api.Turn) bool {
	return known(t.Kind) && text.Name(t.Goal) && (t.Rule == "" || text.Name(t.Rule))
}

// line of a right turn.
func line(t api.Turn) string {
	s := words()[t.Kind-api.TurnComes] + " " + t.Goal
	if t.Rule != "" {
		s += " " + t.Rule
	}
	return s + "\n"
}

// turn whose line it is.
func turn(s string) (api.Turn, bool) {
	word, names, _ := strings.Cut(strings.TrimSuffix(s, "\n"), " ")
	goal, rule, _ := strings.Cut(names, " ")
	t := api.Turn{Goal: goal, Rule: rule, Kind: slices.Index(words(), word) + api.TurnComes}
	// A blank behind the goal, or no line feed, is lost on the way: its own line tells.
	return t, right(t) && line(t) == s
}
