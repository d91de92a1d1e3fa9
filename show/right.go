package show

import (
	"slices"

	"firebell/api"
	"firebell/text"
)

// whole are the types of numbers that a config has.
type whole interface {
	int | int64 | uint32 | uint64
}

// between two others, or one of them?
func between[N whole](n, least, most N) bool {
	return n >= least && n <= most
}

// multiple of a grain? Of one below 1 nothing is.
func multiple(n, grain int64) bool {
	return grain >= 1 && n%grain == 0
}

// all right, and of unlike names?
func all[T any](l []T, right func(T) bool, name func(T) string) bool {
	for i, x := range l {
		ofItsName := func(other T) bool { return name(other) == name(x) }
		if !right(x) || slices.ContainsFunc(l[:i], ofItsName) {
			return false
		}
	}
	return true
}

func goalName(g api.Goal) string { return g.Name }

func labelName(l api.Label) string { return l.Name }

func ruleName(r api.Rule) string { return r.Name }

func rightLabel(l api.Label) bool {
	return text.Name(l.Name) && text.Good(l.Text) && text.Count(l.Text) <= api.MaxQuote
}

func rightNotify(n api.Notify) bool {
	return between(n.Room, 1, api.MaxRoom) &&
		between(n.Reserve, 0, n.Room) &&
		between(n.First, 1, api.MaxGrain) &&
		between(n.Cap, n.First, api.MaxWait) &&
		between(n.Repeat, 0, api.MaxRepeat)
}
