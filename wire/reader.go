package wire

import (
	"math"

	"firebell/api"
)

// Reader takes from the front. A bad one has nothing left.
type Reader struct {
	left string
	bad  bool
}

// New: of bytes.
func New(b []byte) *Reader {
	// A string is a copy: what becomes of b isn't read.
	return &Reader{left: string(b)}
}

// Bad: is it?
func (r *Reader) Bad() bool {
	return r == nil || r.bad
}

// Num: from 0 on.
func (r *Reader) Num() uint64 {
	below, size, taken := front(r.rest())
	if taken == 0 || below {
		r.spoil()
		return 0
	}
	r.take(taken)
	return size
}

// Int: with a sign.
func (r *Reader) Int() int64 {
	below, size, taken := front(r.rest())
	if taken == 0 || below && size-1 > math.MaxInt64 || !below && size > math.MaxInt64 {
		r.spoil()
		return 0
	}
	r.take(taken)
	if below {
		return -int64(size-1) - 1
	}
	return int64(size)
}

// Count: at most so many.
func (r *Reader) Count(most int) int {
	n := r.Num()
	if most < 0 || n > uint64(most) {
		r.spoil()
		return 0
	}
	return int(n)
}

// Text: of at most so many bytes.
func (r *Reader) Text(most int) string {
	n := r.Count(most)
	if n > r.Left() {
		r.spoil()
		return ""
	}
	return r.take(n)
}

// Flag: a byte.
func (r *Reader) Flag() bool {
	s := r.rest()
	if s == "" || s[0] > 1 {
		r.spoil()
		return false
	}
	return r.take(1) == "\x01"
}

// Left: bytes.
func (r *Reader) Left() int {
	return len(r.rest())
}

// End: nothing is left?
func (r *Reader) End() api.Code {
	if r.Bad() || r.Left() > 0 {
		return api.Torn
	}
	return api.Fine
}

// rest is what is left.
func (r *Reader) rest() string {
	if r == nil {
		return ""
	}
	return r.left
}

// take so many bytes, which are there.
func (r *Reader) take(n int) string {
	if r == nil {
		return ""
	}
	s := r.left[:n]
	r.left = r.left[n:]
	return s
}

// spoil it: from now on it is bad.
func (r *Reader) spoil() {
	if r != nil {
		r.left, r.bad = "", true
	}
}

// front tells the number at the front, by whether it is below 0 and its size, and how many bytes it has: 0, if none stands there.
func front(s string) (below bool, size uint64, taken int) {
	if s == "" {
		return false, 0, 0
	}
	below = s[0]&belowMark != 0
	count := int(s[0] &^ belowMark)
	if count > mostBytes || count >= len(s) {
		return false, 0, 0
	}
	// A first byte of 0 could be left out, and of what is below 0 one has to follow, since there is no -0.
	if count > 0 && s[1] == 0 || count == 0 && below {
		return false, 0, 0
	}
	for i := range count {
		size = size<<8 | uint64(s[1+i])
	}
	return below, size, 1 + count
}
