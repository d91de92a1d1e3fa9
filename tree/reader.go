package tree

import "firebell/api"

// reader goes through a source's tokens. It panics with the first fault, so that no depth has to hand it on.
type reader struct {
	tokens []api.Tok
	// begun: items of the whole source, up to here.
	begun int
}

// next token: TokEnd ends the source or is a fault, so none is asked for behind it.
func (r *reader) next() api.Tok {
	t := r.tokens[0]
	r.tokens = r.tokens[1:]
	return t
}

// list of items of a depth, up to what ends it.
func (r *reader) list(depth int) []api.Item {
	end := api.TokShut
	if depth == 1 {
		end = api.TokEnd
	}
	var items []api.Item
	for t := r.next(); t.Kind != end; t = r.next() {
		r.begin(t, depth)
		items = append(items, r.item(t, depth))
	}
	return items
}

// begin an item of a depth with this token, if it may.
func (r *reader) begin(t api.Tok, depth int) {
	switch {
	case t.Kind != api.TokName:
		fail(api.Form, t)
	case depth > api.MaxDeep:
		fail(api.Deep, t)
	case r.begun == api.MaxItems:
		fail(api.Long, t)
	}
	r.begun++
}

// item with a name, up to its stop, or its block's brace.
func (r *reader) item(name api.Tok, depth int) api.Item {
	item := api.Item{Name: name.Text, At: name.At}
	t := r.next()
	for ; word(t); t = r.next() {
		if len(item.Words) == api.MaxWords {
			fail(api.Long, t)
		}
		item.Words = append(item.Words, t)
	}
	switch t.Kind {
	case api.TokStop:
	case api.TokOpen:
		item.Block = true
		item.Kids = r.list(depth + 1)
	default:
		fail(api.Form, t)
	}
	return item
}

// word: may the token stand behind an item's name?
func word(t api.Tok) bool {
	return t.Kind >= api.TokName && t.Kind <= api.TokSpan
}

// fail at a token.
func fail(c api.Code, t api.Tok) {
	panic(api.Fault{Code: c, At: t.At})
}
