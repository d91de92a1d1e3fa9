package compile

import "firebell/api"

// Values of words: each kind has a type of its own.
type (
	nameValue   string
	textValue   string
	countValue  uint64
	factorValue uint64
	shareValue  uint64
	spanValue   uint64
)

// value of a word that may stand in a right tree.
func value(t api.Tok) any {
	switch t.Kind {
	case api.TokName:
		return nameValue(t.Text)
	case api.TokText:
		return textValue(t.Text)
	case api.TokCount:
		return countValue(t.N)
	case api.TokFactor:
		return factorValue(t.N)
	case api.TokShare:
		return shareValue(t.N)
	}
	return spanValue(t.N)
}

// need what is said of an item's form.
func need(ok bool) {
	if !ok {
		panic(api.Form)
	}
}

func nameOf(t api.Tok) string {
	s, ok := value(t).(nameValue)
	need(ok)
	return string(s)
}

func textOf(t api.Tok) string {
	s, ok := value(t).(textValue)
	need(ok)
	return string(s)
}

func countOf(t api.Tok) uint64 {
	n, ok := value(t).(countValue)
	need(ok)
	return uint64(n)
}

func shareOf(t api.Tok) uint64 {
	n, ok := value(t).(shareValue)
	need(ok)
	return uint64(n)
}

func spanOf(t api.Tok) uint64 {
	n, ok := value(t).(spanValue)
	need(ok)
	return uint64(n)
}

// factorOf: in thousandths.
func factorOf(t api.Tok) uint64 {
	switch n := value(t).(type) {
	case factorValue:
		return uint64(n)
	case countValue:
		// What is too great stays so at one above the most, and its thousandfold can't go round.
		return 1000 * min(uint64(n), api.MaxFactor/1000+1)
	}
	panic(api.Form)
}

// first of two names, or the second one?
func first(t api.Tok, one, other string) bool {
	s := nameOf(t)
	need(s == one || s == other)
	return s == one
}

// number is what is done with an item of one number, which goes on if it is between two others.
func number(of func(api.Tok) uint64, least, most uint64, set func(uint64)) func(*item) {
	return func(x *item) {
		x.form(1, false)
		n := of(x.Words[0])
		x.once()
		if n < least || n > most {
			panic(api.Range)
		}
		set(n)
	}
}

// span is what is done with an item of one span, which goes to a place.
func span(to *int64, least, most uint64) func(*item) {
	return number(spanOf, least, most, func(n uint64) { *to = int64(n) })
}

// count is what is done with an item of one count, which goes to a place.
func count(to *int, least, most uint64) func(*item) {
	return number(countOf, least, most, func(n uint64) { *to = int(n) })
}
