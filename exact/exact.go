// Package exact is layer 1: see shared/doc/01-exact.md.
package exact

import (
	"math"
	"math/bits"

	"firebell/api"
)

// mostDigits: 2^128 less 1 has so many.
const mostDigits = 39

// Add: both.
func Add(a, b api.Wide) (api.Wide, api.Code) {
	lo, carry := bits.Add64(a.Lo, b.Lo, 0)
	hi, over := bits.Add64(a.Hi, b.Hi, carry)
	if over != 0 {
		return api.Wide{}, api.Over
	}
	return api.Wide{Hi: hi, Lo: lo}, api.Fine
}

// Less: one less the other.
func Less(a, b api.Wide) (api.Wide, api.Code) {
	lo, borrow := bits.Sub64(a.Lo, b.Lo, 0)
	hi, below := bits.Sub64(a.Hi, b.Hi, borrow)
	if below != 0 {
		return api.Wide{}, api.Over
	}
	return api.Wide{Hi: hi, Lo: lo}, api.Fine
}

// Compare: which one is greater?
func Compare(a, b api.Wide) int {
	if a.Hi != b.Hi {
		return order(a.Hi, b.Hi)
	}
	return order(a.Lo, b.Lo)
}

func order(a, b uint64) int {
	if a < b {
		return -1
	}
	if a > b {
		return 1
	}
	return 0
}

// Times: of 64 bits each.
func Times(a, b uint64) api.Wide {
	hi, lo := bits.Mul64(a, b)
	return api.Wide{Hi: hi, Lo: lo}
}

// More: so many times.
func More(a api.Wide, n uint64) (api.Wide, api.Code) {
	high := Times(a.Hi, n)
	if high.Hi != 0 {
		return api.Wide{}, api.Over
	}
	return Add(api.Wide{Hi: high.Lo}, Times(a.Lo, n))
}

// Floor: how often, and what is left.
func Floor(a api.Wide, n uint64) (api.Wide, uint64, api.Code) {
	if n == 0 {
		return api.Wide{}, 0, api.Zero
	}
	// What is left of the high half is below n, which Div64 asks for.
	lo, left := bits.Div64(a.Hi%n, a.Lo, n)
	return api.Wide{Hi: a.Hi / n, Lo: lo}, left, api.Fine
}

// Ceil: how often till it is reached.
func Ceil(a api.Wide, n uint64) (api.Wide, api.Code) {
	q, left, c := Floor(a, n)
	if c != api.Fine || left == 0 {
		return q, c
	}
	return Add(q, api.Wide{Lo: 1})
}

// Ratio: a by b, and c by d.
func Ratio(a, b, c, d uint64) (int, api.Code) {
	if b == 0 || d == 0 {
		return 0, api.Zero
	}
	return Compare(Times(a, d), Times(c, b)), api.Fine
}

// Sum: of all.
func Sum(l []uint64) (uint64, api.Code) {
	sum := uint64(0)
	for _, n := range l {
		if n > math.MaxUint64-sum {
			return 0, api.Over
		}
		sum += n
	}
	return sum, api.Fine
}

// Print: its digits.
func Print(a api.Wide) string {
	var digits [mostDigits]byte
	first := mostDigits
	for first > 0 {
		rest, digit, _ := Floor(a, 10)
		first--
		digits[first] = '0' + byte(digit)
		if rest == (api.Wide{}) {
			break
		}
		a = rest
	}
	return string(digits[first:])
}

// Read: of a print.
func Read(s string) (api.Wide, api.Code) {
	// Looked at whole ahead of counting: letters behind too many digits are Word, not Over.
	if !printed(s) {
		return api.Wide{}, api.Word
	}
	a := api.Wide{}
	for _, r := range s {
		tens, c := More(a, 10)
		if c != api.Fine {
			return api.Wide{}, c
		}
		a, c = Add(tens, api.Wide{Lo: uint64(r - '0')})
		if c != api.Fine {
			return api.Wide{}, c
		}
	}
	return a, api.Fine
}

// printed: is it digits as Print writes them, of a number of any size?
func printed(s string) bool {
	if s == "" || s[0] == '0' && s != "0" {
		return false
	}
	for _, r := range s {
		if r < '0' || r > '9' {
			return false
		}
	}
	return true
}
