package scan

import (
	"strings"

	"firebell/api"
	"firebell/exact"
	"firebell/ppm"
	"firebell/span"
	"firebell/text"
)

// thousand: parts that a factor's whole one has.
const thousand = 1000

// told takes a value apart.
func told(v any) (api.Tok, api.Code) {
	if t, ok := v.(api.Tok); ok {
		return t, api.Fine
	}
	return api.Tok{}, v.(api.Code)
}

// value of a text that may be a word: a token, or a code.
func value(s string) any {
	if text.Name(s) {
		return api.Tok{Kind: api.TokName, Text: s}
	}
	if s == "" || !digit(rune(s[0])) {
		return api.Word
	}
	kind := numberKind(s)
	n, c := number(kind, s)
	if c != api.Fine {
		return c
	}
	return api.Tok{Kind: kind, N: n}
}

// numberKind of a text whose first rune is a digit.
func numberKind(s string) int {
	switch {
	case onlyDigits(s):
		return api.TokCount
	case strings.HasSuffix(s, "%"):
		return api.TokShare
	case strings.Contains(s, "."):
		return api.TokFactor
	}
	return api.TokSpan
}

func onlyDigits(s string) bool {
	for _, r := range s {
		if !digit(r) {
			return false
		}
	}
	return true
}

// number that is written so, in a token of that kind.
func number(kind int, s string) (uint64, api.Code) {
	switch kind {
	case api.TokCount:
		return narrow(exact.Read(s))
	case api.TokShare:
		p, c := ppm.Read(s)
		return uint64(p), c
	case api.TokFactor:
		return factor(s)
	}
	n, c := span.Read(s)
	return uint64(n), c
}

// narrow has what was read, or reckoned, in 64 bits.
func narrow(n api.Wide, c api.Code) (uint64, api.Code) {
	if c == api.Over || n.Hi != 0 {
		return 0, api.Range
	}
	return n.Lo, c
}

// factor is a thousand times what is written with a point.
func factor(s string) (uint64, api.Code) {
	front, back, _ := strings.Cut(s, ".")
	// Word is looked for in all of the text ahead of Range, so what is behind the point comes first.
	left, written := thousandths(back)
	if !written {
		return 0, api.Word
	}
	whole, c := narrow(exact.Read(front))
	if c != api.Fine {
		return 0, c
	}
	return narrow(exact.Add(exact.Times(whole, thousand), api.Wide{Lo: left}))
}

// thousandths that the digits behind the point are, and whether they are one to three.
func thousandths(s string) (uint64, bool) {
	parts, unit := uint64(0), uint64(thousand)
	for _, r := range s {
		unit /= 10
		if unit == 0 || !digit(r) {
			return 0, false
		}
		parts += unit * uint64(r-'0')
	}
	return parts, s != ""
}

// factorPrint is how a factor is written.
func factorPrint(n uint64) string {
	// A whole one more lends its first digit, which keeps the noughts ahead in their places.
	three := digits(thousand + n%thousand)[1:]
	return digits(n/thousand) + "." + three[:1] + strings.TrimRight(three[1:], "0")
}
