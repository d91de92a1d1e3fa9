package layout

import (
	"iter"
	"slices"

	"firebell/api"
	"firebell/scan"
	"firebell/text"
)

// items of a tree, each with its depth, ahead of its kids.
func items(l []api.Item) iter.Seq2[int, api.Item] {
	return func(yield func(int, api.Item) bool) {
		walk(l, 1, yield)
	}
}

// walk through items of a depth, and their kids, as long as yield asks for more: does it to the end?
//
// All depths have the one yield: if each had its own, an item would be handed up through all that are above it.
func walk(l []api.Item, depth int, yield func(int, api.Item) bool) bool {
	for _, x := range l {
		if !yield(depth, x) || !walk(x.Kids, depth+1, yield) {
			return false
		}
	}
	return true
}

// rightItem: may it stand in a right tree, as far as it alone can tell?
func rightItem(x api.Item) bool {
	return text.Name(x.Name) &&
		len(x.Words) <= api.MaxWords &&
		!slices.ContainsFunc(x.Words, wrongWord) &&
		(x.Block || len(x.Kids) == 0)
}

// wrongWord: is it none that may stand behind an item's name?
func wrongWord(t api.Tok) bool {
	return t.Kind < api.TokName || t.Kind > api.TokSpan || !scan.Right(t)
}

// sameItem: are they alike but for places?
func sameItem(x, y api.Item) bool {
	return x.Name == y.Name &&
		x.Block == y.Block &&
		slices.EqualFunc(x.Words, y.Words, sameWord) &&
		Same(x.Kids, y.Kids)
}

// sameWord: are they alike but for places?
func sameWord(a, b api.Tok) bool {
	return bareWord(a) == bareWord(b)
}

// bareWords are the same ones without places.
func bareWords(l []api.Tok) []api.Tok {
	bare := make([]api.Tok, len(l))
	for i, t := range l {
		bare[i] = bareWord(t)
	}
	return bare
}

// bareWord is the same one without its place.
func bareWord(t api.Tok) api.Tok {
	t.At = api.Spot{}
	return t
}
