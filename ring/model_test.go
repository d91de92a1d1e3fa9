package ring_test

import (
	"fmt"
	"math/big"
	"slices"
	"strings"
	"testing"

	"firebell/api"
	"firebell/ring"
	"firebell/wire"
)

// event is a count that was added with a tick.
type event struct {
	at    int64
	count api.Count
}

// model is a ring by the chapter's words: all that was ever added since the last Reset, whatever was moved in between.
type model struct {
	many, width, now int64
	events           []event
}

// goTogether is what the chapter says of a window and a grain.
func goTogether(window, grain int64) bool {
	return grain >= 1 && grain <= 86400 && window >= 1 && window <= 34560000 && window/grain*grain == window
}

// shape is what the chapter says of those that go together: each number up to 60 is tried.
func shape(window, grain int64) (many, width int64) {
	grains := window / grain
	for n := int64(1); n <= 60; n++ {
		if grains/n*n == grains {
			many = n
		}
	}
	return many, window / many
}

func newModel(window, grain int64) *model {
	many, width := shape(window, grain)
	return &model{many: many, width: width}
}

// number of a tick, or of one that is below 0.
func (m *model) number(at int64) int64 {
	n := new(big.Int)
	// big.Int's Div goes down, whatever the sign.
	return n.Div(big.NewInt(at), big.NewInt(m.width)).Int64()
}

// eldest: the first number that has a bucket.
func (m *model) eldest() int64 {
	return m.number(m.now) - m.many + 1
}

// buckets come of all events anew, for each number.
func (m *model) buckets() []api.Count {
	l := make([]api.Count, m.many)
	for _, e := range m.events {
		if i := m.number(e.at) - m.eldest(); i >= 0 {
			l[i].Good += e.count.Good
			l[i].Total += e.count.Total
		}
	}
	return l
}

// total is the sum of all buckets, and of one count more.
func total(l []api.Count, more api.Count) *big.Int {
	n := new(big.Int)
	for _, c := range append(slices.Clone(l), more) {
		n.Add(n, new(big.Int).SetUint64(c.Total))
	}
	return n
}

// most is what no sum's Total is above.
var most = new(big.Int).SetUint64(1<<63 - 1)

func (m *model) add(at int64, c api.Count) api.Code {
	switch {
	case c.Good > c.Total:
		return api.Counts
	case at < 0 || at > 253402300799:
		return api.Range
	case at > m.now:
		return api.Early
	case m.number(at) < m.eldest():
		return api.Late
	case total(m.buckets(), c).Cmp(most) > 0:
		return api.Sated
	}
	m.events = append(m.events, event{at, c})
	return api.Fine
}

func (m *model) move(now int64) api.Code {
	switch {
	case now < 0 || now > 253402300799:
		return api.Range
	case now < m.now:
		return api.Late
	}
	m.now = now
	return api.Fine
}

// number is what chapter 7 says of a number's bytes.
func number(n uint64) string {
	b := new(big.Int).SetUint64(n).Bytes()
	return string(append([]byte{byte(len(b))}, b...))
}

// written are counts as the chapter has them put.
func written(l ...api.Count) string {
	var s strings.Builder
	for _, c := range l {
		s.WriteString(number(c.Good) + number(c.Total))
	}
	return s.String()
}

// taken is the number at the front, and how many bytes it has: 0, if none is there.
func taken(s string) (uint64, int) {
	if s == "" || s[0] > 8 || len(s) <= int(s[0]) {
		return 0, 0
	}
	n := new(big.Int).SetBytes([]byte(s[1 : 1+s[0]])).Uint64()
	if number(n) != s[:1+s[0]] {
		return 0, 0
	}
	return n, 1 + int(s[0])
}

// modelGet is what the chapter says of Get: the ring, and how many bytes are left behind it; nil, if there is none.
func modelGet(s string, window, grain, now int64) (*model, int) {
	if !goTogether(window, grain) || now < 0 || now > 253402300799 {
		return nil, 0
	}
	m := newModel(window, grain)
	m.now = now
	for i := range m.many {
		good, size := taken(s)
		s = s[size:]
		all, size2 := taken(s)
		s = s[size2:]
		c := api.Count{Good: good, Total: all}
		at := (m.eldest() + i) * m.width
		if size == 0 || size2 == 0 || good > all || at < 0 && c != (api.Count{}) || total(m.buckets(), c).Cmp(most) > 0 {
			return nil, 0
		}
		m.events = append(m.events, event{at, c})
	}
	return m, len(s)
}

// shown is a count in a test's words.
func shown(c api.Count) string {
	return fmt.Sprintf("%d/%d", c.Good, c.Total)
}

// told is all that a ring tells: now, the buckets, the sum.
func told(r *ring.Ring) string {
	var s strings.Builder
	fmt.Fprintf(&s, "%d: ", r.Now())
	for _, c := range r.Buckets() {
		s.WriteString(shown(c) + " ")
	}
	return s.String() + "= " + shown(r.Sum())
}

// toldOf a model.
func toldOf(m *model) string {
	var s strings.Builder
	var sum api.Count
	fmt.Fprintf(&s, "%d: ", m.now)
	for _, c := range m.buckets() {
		s.WriteString(shown(c) + " ")
		sum.Good += c.Good
		sum.Total += c.Total
	}
	return s.String() + "= " + shown(sum)
}

// wantRing holds a ring against a model: what it tells, and what is put of it.
func wantRing(t *testing.T, r *ring.Ring, m *model) {
	t.Helper()
	if got, want := told(r), toldOf(m); got != want {
		t.Fatalf("a ring of %d times %d tells\n%s, not\n%s", m.many, m.width, got, want)
	}
	if got, want := string(r.Put(nil)), written(m.buckets()...); got != want {
		t.Fatalf("%s is put as %x, not %x", told(r), got, want)
	}
}

// wantGet holds what is got of bytes against the chapter, with the reader.
func wantGet(t *testing.T, s string, window, grain, now int64) (*ring.Ring, *model) {
	t.Helper()
	m, left := modelGet(s, window, grain, now)
	b := []byte(s)
	x := wire.New(b)
	r := ring.Get(x, window, grain, now)
	if string(b) != s {
		t.Fatalf("%x became %x", s, b)
	}
	if r != nil != (m != nil) || x.Bad() != (m == nil) || x.Left() != left {
		t.Fatalf("a ring of %d by %d at %d of %x: is there one? %t; is the reader bad? %t; %d bytes are left, not %d", window, grain, now, s, r != nil, x.Bad(), x.Left(), left)
	}
	if m != nil {
		wantRing(t, r, m)
	}
	return r, m
}

// aRing is a new one, of those that go together.
func aRing(t *testing.T, window, grain int64) *ring.Ring {
	t.Helper()
	r, c := ring.New(window, grain)
	if r == nil || c != api.Fine {
		t.Fatalf("New(%d, %d): %v, %d", window, grain, r, c)
	}
	return r
}

func count(good, total uint64) api.Count {
	return api.Count{Good: good, Total: total}
}
