package text

import (
	"strings"
	"unicode/utf8"
)

// state is where in a quoted text a reader stands.
type state int

const (
	ahead   state = iota // of the first mark
	between              // the marks
	slash                // behind a backslash
	brace                // behind \u
	number               // behind \u{
	behind               // the last mark
)

// mostDigits of a rune's number.
const mostDigits = 6

// reader takes a quoted text's runes, and gathers what they stand for.
type reader struct {
	at     state
	text   strings.Builder
	number rune
	digits int
}

// take goes on by a rune: may it stand there?
func (q *reader) take(r rune) bool {
	switch q.at {
	case ahead:
		q.at = between
		return r == '"'
	case between:
		return q.takeBetween(r)
	case slash:
		return q.takeEscaped(r)
	case brace:
		q.at = number
		return r == '{'
	case number:
		return q.takeNumber(r)
	}
	return false
}

func (q *reader) takeBetween(r rune) bool {
	switch {
	case r == '"':
		q.at = behind
	case r == '\\':
		q.at = slash
	case plain(r):
		q.text.WriteRune(r)
	default:
		return false
	}
	return true
}

func (q *reader) takeEscaped(r rune) bool {
	switch r {
	case '"', '\\':
		q.write(r)
	case 'n':
		q.write('\n')
	case 't':
		q.write('\t')
	case 'u':
		q.at, q.number, q.digits = brace, 0, 0
	default:
		return false
	}
	return true
}

func (q *reader) takeNumber(r rune) bool {
	switch {
	case r == '}' && q.digits > 0 && utf8.ValidRune(q.number):
		q.write(q.number)
	case q.digits == mostDigits:
		return false
	case r >= '0' && r <= '9':
		q.add(r - '0')
	case r >= 'a' && r <= 'f':
		q.add(r - 'a' + 10)
	default:
		return false
	}
	return true
}

// add a hex digit to the number: six of them are far from 32 bits' end.
func (q *reader) add(digit rune) {
	q.number = q.number*16 + digit
	q.digits++
}

// write what a backslash and what is behind it stand for.
func (q *reader) write(r rune) {
	q.text.WriteRune(r)
	q.at = between
}
