package scan

import (
	"unicode/utf8"

	"firebell/api"
	"firebell/text"
)

// piece is what stands at the front of a source that isn't empty: a remark, a word, a text as far as it goes, or else a rune.
func piece(s string) string {
	first, size := utf8.DecodeRuneInString(s)
	switch {
	case first == '#':
		return remark(s)
	case first == '"':
		return quoted(s)
	case inWord(first):
		return word(s)
	}
	return s[:size]
}

func remark(s string) string {
	for i, r := range s {
		if r == '\n' {
			return s[:i]
		}
	}
	return s
}

// quoted is all up to the text's last mark, or, if it has none, up to the line's end: that is no quoted text.
func quoted(s string) string {
	// The first mark ends nothing, as one that a backslash takes.
	taken := true
	for i, r := range s {
		switch {
		case r == '\n':
			return s[:i]
		case taken:
			taken = false
		case r == '\\':
			taken = true
		case r == '"':
			return s[:i+1]
		}
	}
	return s
}

func word(s string) string {
	for i, r := range s {
		if !inWord(r) {
			return s[:i]
		}
	}
	return s
}

// inWord: may it stand in a word?
func inWord(r rune) bool {
	return text.Letter(r) || digit(r) || r == '_' || r == '-' || r == '.' || r == '%'
}

func digit(r rune) bool {
	return r >= '0' && r <= '9'
}

// gap: is a piece one?
func gap(piece string) bool {
	switch piece[0] {
	case ' ', '\t', '\n', '#':
		return true
	}
	return false
}

// behind is the place behind a piece that stands at some place.
func behind(piece string, at api.Spot) api.Spot {
	for _, r := range piece {
		at.Col++
		if r == '\n' {
			at = api.Spot{Line: at.Line + 1, Col: 1}
		}
	}
	return at
}

// token of a piece that is no gap, at no place.
func token(piece string) (api.Tok, api.Code) {
	switch piece[0] {
	case '{':
		return api.Tok{Kind: api.TokOpen}, api.Fine
	case '}':
		return api.Tok{Kind: api.TokShut}, api.Fine
	case ';':
		return api.Tok{Kind: api.TokStop}, api.Fine
	case '"':
		return textToken(piece)
	}
	// Of a rune that begins nothing a word's value tells what has to be told, too.
	return told(value(piece))
}

func textToken(piece string) (api.Tok, api.Code) {
	s, c := text.Unquote(piece)
	if c != api.Fine {
		return api.Tok{}, c
	}
	return api.Tok{Kind: api.TokText, Text: s}, api.Fine
}
