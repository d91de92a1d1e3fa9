package ring_test

import (
	"bytes"
	"math"
	"math/rand"
	"slices"
	"strings"
	"testing"

	"firebell/api"
	"firebell/ring"
	"firebell/wire"
)

// wantNoRing of bytes: nil, and the reader is bad for good.
func wantNoRing(t *testing.T, s string, window, grain, now int64) {
	t.Helper()
	x := wire.New([]byte(s))
	if r := ring.Get(x, window, grain, now); r != nil || !x.Bad() || x.Left() != 0 || x.End() != api.Torn {
		t.Fatalf("a ring of %d by %d at %d of %x: is there one? %t; is the reader bad? %t", window, grain, now, s, r != nil, x.Bad())
	}
	if r := ring.Get(x, 1, 1, 0); r != nil || !x.Bad() {
		t.Fatal("a bad reader has a ring")
	}
}

// wantOneRing of bytes, of which so many are left, and what it tells.
func wantOneRing(t *testing.T, s string, window, grain, now int64, left int, tells string) *ring.Ring {
	t.Helper()
	x := wire.New([]byte(s))
	r := ring.Get(x, window, grain, now)
	if r == nil || x.Bad() || x.Left() != left {
		t.Fatalf("a ring of %d by %d at %d of %x: is there one? %t; is the reader bad? %t; %d are left", window, grain, now, s, r != nil, x.Bad(), x.Left())
	}
	if told(r) != tells || string(r.Put(nil)) != s[:len(s)-left] {
		t.Fatalf("%s, not %s, is put as %x, and was got of %x", told(r), tells, r.Put(nil), s)
	}
	return r
}

// P19.4 by hand.
func TestPut(t *testing.T) {
	r := aRing(t, 30, 10)
	if b := r.Put(nil); string(b) != "\x00\x00\x00\x00\x00\x00" {
		t.Errorf("a new ring: %x", b)
	}
	r.Move(25)
	r.Add(25, count(1, 2))
	r.Add(3, count(255, 256))
	if b := r.Put(nil); string(b) != "\x01\xff\x02\x01\x00"+"\x00\x00"+"\x01\x01\x01\x02" {
		t.Errorf("a ring of three: %x", b)
	}
	r.Add(10, count(0, 1<<63-259))
	if b := r.Put([]byte("ab")); string(b) != "ab"+"\x01\xff\x02\x01\x00"+"\x00\x08\x7f\xff\xff\xff\xff\xff\xfe\xfd"+"\x01\x01\x01\x02" {
		t.Errorf("behind two bytes: %x", b)
	}
	r.Move(30)
	if b := r.Put([]byte{}); string(b) != "\x00\x08\x7f\xff\xff\xff\xff\xff\xfe\xfd"+"\x01\x01\x01\x02"+"\x00\x00" {
		t.Errorf("a bucket later: %x", b)
	}
	r.Reset()
	if b := r.Put(nil); string(b) != "\x00\x00\x00\x00\x00\x00" {
		t.Errorf("behind Reset: %x", b)
	}
}

// P19.4: what is put is memory of its own, even where there is room behind b.
func TestPutIsTheCallers(t *testing.T) {
	r := aRing(t, 30, 10)
	r.Add(0, count(1, 2))
	for _, x := range []*ring.Ring{r, nil} {
		room := bytes.Repeat([]byte{0xAA}, 60)
		b := room[:3]
		one, two := x.Put(b), x.Put(b)
		for i := range one {
			one[i] = 0x55
		}
		if bytes.Count(room, []byte{0xAA}) != 60 || two[0] != 0xAA || len(one) != len(two) {
			t.Errorf("%x and %x of %x", one, two, room)
		}
	}
	if string(r.Put(nil)) != "\x00\x00\x00\x00\x01\x01\x01\x02" {
		t.Errorf("%x", r.Put(nil))
	}
}

// P19.4 by hand: new ones, full ones, with bytes behind.
func TestGet(t *testing.T) {
	six := strings.Repeat("\x00", 6)
	wantOneRing(t, six, 30, 10, 0, 0, "0: 0/0 0/0 0/0 = 0/0")
	wantOneRing(t, six, 30, 10, 1000000, 0, "1000000: 0/0 0/0 0/0 = 0/0")
	wantOneRing(t, six, 30, 10, api.MaxTick, 0, "253402300799: 0/0 0/0 0/0 = 0/0")
	wantOneRing(t, six+"\x00\xff", 30, 10, 0, 2, "0: 0/0 0/0 0/0 = 0/0")
	wantOneRing(t, six, 20, 10, 0, 2, "0: 0/0 0/0 = 0/0")
	wantOneRing(t, six, 10, 10, 0, 4, "0: 0/0 = 0/0")
	wantOneRing(t, strings.Repeat("\x00", 120), 3600, 10, 7, 0, "7: "+strings.Repeat("0/0 ", 60)+"= 0/0")
	full := written(count(1, 2), count(300, 300), count(0, 70000))
	wantOneRing(t, full, 30, 10, 25, 0, "25: 1/2 300/300 0/70000 = 301/70302")
	wantOneRing(t, full, 30, 10, 20, 0, "20: 1/2 300/300 0/70000 = 301/70302")
	wantOneRing(t, full, 3, 1, 2, 0, "2: 1/2 300/300 0/70000 = 301/70302")
	wantOneRing(t, full+full, 30, 10, api.MaxTick, len(full), "253402300799: 1/2 300/300 0/70000 = 301/70302")
	wantOneRing(t, written(count(5, 5)), 61, 1, 0, 0, "0: 5/5 = 5/5")
	// two, one behind the other
	x := wire.New([]byte(full + "\x01\x07" + six + "!"))
	a := ring.Get(x, 30, 10, 25)
	n := x.Num()
	b := ring.Get(x, 30, 10, 9)
	if a == nil || b == nil || n != 7 || x.Bad() || x.Left() != 1 {
		t.Fatal(a, b, n, x.Bad(), x.Left())
	}
	a.Reset()
	if told(b) != "9: 0/0 0/0 0/0 = 0/0" || b.Add(9, count(1, 1)) != api.Fine || told(a) != "25: 0/0 0/0 0/0 = 0/0" {
		t.Error(told(a), told(b))
	}
}

// P19.4 and P19.5: what was got goes on.
func TestGoesOn(t *testing.T) {
	r := wantOneRing(t, written(count(1, 2), count(3, 3), count(0, 4)), 30, 10, 25, 0, "25: 1/2 3/3 0/4 = 4/9")
	for _, s := range []step{
		{add(26, 0, 1), api.Early, "25: 1/2 3/3 0/4 = 4/9"},
		{move(24), api.Late, "25: 1/2 3/3 0/4 = 4/9"},
		{add(9, 1, 1), api.Fine, "25: 2/3 3/3 0/4 = 5/10"},
		{add(25, 0, 1<<63-10), api.Sated, "25: 2/3 3/3 0/4 = 5/10"},
		{move(29), api.Fine, "29: 2/3 3/3 0/4 = 5/10"},
		{move(30), api.Fine, "30: 3/3 0/4 0/0 = 3/7"},
		{add(9, 1, 1), api.Late, "30: 3/3 0/4 0/0 = 3/7"},
		{add(25, 0, 1<<63-8), api.Fine, "30: 3/3 0/9223372036854775804 0/0 = 3/9223372036854775807"},
		{move(50), api.Fine, "50: 0/0 0/0 0/0 = 0/0"},
	} {
		if c := s.do(r); c != s.code || told(r) != s.told {
			t.Fatalf("%d, not %d; %s, not %s", c, s.code, told(r), s.told)
		}
	}
}

// P19.4: a window and a grain that don't go together, and what is no tick.
func TestGetOfWrongNumbers(t *testing.T) {
	s := strings.Repeat("\x00", 200)
	wantOneRing(t, s, 30, 10, 25, 194, "25: 0/0 0/0 0/0 = 0/0")
	for _, x := range [][2]int64{{30, 0}, {30, -10}, {0, 10}, {-30, 10}, {35, 10}, {10, 30}, {86401, 86401}, {34560001, 1}, {34560010, 10}, {math.MinInt64, 1}, {math.MaxInt64, 1}, {30, math.MinInt64}, {30, math.MaxInt64}, {math.MinInt64, -1}} {
		wantNoRing(t, s, x[0], x[1], 25)
		wantNoRing(t, s, x[0], x[1], -1)
		wantNoRing(t, "", x[0], x[1], 25)
	}
	for _, now := range []int64{-1, -10, math.MinInt64, api.MaxTick + 1, math.MaxInt64} {
		wantNoRing(t, s, 30, 10, now)
		wantNoRing(t, "", 30, 10, now)
	}
}

// P19.4: bytes that are too few, or end in the middle, or are no numbers.
func TestGetOfTornBytes(t *testing.T) {
	s := written(count(1, 2), count(300, 300), count(0, 70000))
	for n := range len(s) {
		wantNoRing(t, s[:n], 30, 10, 25)
	}
	for n := range 8 {
		wantNoRing(t, strings.Repeat("\x00", n), 40, 10, 1000)
	}
	wantNoRing(t, s, 40, 10, 1000)
	for _, wrong := range []string{"\x01\x00", "\x02\x00\x01", "\x09\x01\x01\x01\x01\x01\x01\x01\x01\x01", "\x10", "\x11\x01", "\xff"} {
		zeros := strings.Repeat("\x00", 20)
		for n := range 6 {
			wantNoRing(t, zeros[:n]+wrong+zeros, 30, 10, 1000)
		}
		wantOneRing(t, zeros[:6]+wrong, 30, 10, 1000, len(wrong), "1000: 0/0 0/0 0/0 = 0/0")
	}
}

// P19.4: counts that aren't right, and such of which there are more than can be.
func TestGetOfWrongCounts(t *testing.T) {
	const most = 1<<63 - 1
	for i := range 3 {
		for _, c := range []api.Count{count(1, 0), count(3, 2), count(most, most-1), count(math.MaxUint64, 0), count(math.MaxUint64, math.MaxUint64-1), count(0, most+1), count(most+1, most+1), count(0, math.MaxUint64), count(math.MaxUint64, math.MaxUint64)} {
			l := make([]api.Count, 3)
			l[i] = c
			wantNoRing(t, written(l...), 30, 10, 1000)
			wantNoRing(t, written(l...), 30, 10, api.MaxTick)
		}
	}
	for _, x := range []struct {
		s     string
		tells string
	}{
		{written(count(0, most), count(0, 0), count(0, 0)), "25: 0/9223372036854775807 0/0 0/0 = 0/9223372036854775807"},
		{written(count(0, 0), count(0, 0), count(most, most)), "25: 0/0 0/0 9223372036854775807/9223372036854775807 = 9223372036854775807/9223372036854775807"},
		{written(count(0, most-3), count(1, 1), count(1, 2)), "25: 0/9223372036854775804 1/1 1/2 = 2/9223372036854775807"},
		{written(count(0, 1<<62), count(0, 1<<62-1), count(0, 0)), "25: 0/4611686018427387904 0/4611686018427387903 0/0 = 0/9223372036854775807"},
	} {
		wantOneRing(t, x.s, 30, 10, 25, 0, x.tells)
	}
	wantNoRing(t, written(count(0, most), count(0, 1), count(0, 0)), 30, 10, 25)
	wantNoRing(t, written(count(0, 1), count(0, 0), count(0, most)), 30, 10, 25)
	wantNoRing(t, written(count(0, most-3), count(1, 1), count(1, 3)), 30, 10, 25)
	wantNoRing(t, written(count(0, 1<<62), count(0, 1<<62), count(0, 0)), 30, 10, 25)
	// these would go round, and come to few
	wantNoRing(t, written(count(0, most), count(0, most), count(0, 2)), 30, 10, 25)
	wantNoRing(t, written(count(0, 1), count(0, math.MaxUint64), count(0, 0)), 30, 10, 25)
}

// P19.4: ahead of tick 0 there was nothing.
func TestGetAheadOfTheBeginning(t *testing.T) {
	three := written(count(1, 2), count(0, 1), count(3, 3))
	two := written(count(0, 0), count(0, 1), count(3, 3))
	one := written(count(0, 0), count(0, 0), count(3, 3))
	none := written(count(0, 0), count(0, 0), count(0, 0))
	for _, x := range []struct {
		now   int64
		bytes string
		tells string
	}{
		{0, one, "0: 0/0 0/0 3/3 = 3/3"},
		{9, one, "9: 0/0 0/0 3/3 = 3/3"},
		{9, none, "9: 0/0 0/0 0/0 = 0/0"},
		{10, two, "10: 0/0 0/1 3/3 = 3/4"},
		{10, one, "10: 0/0 0/0 3/3 = 3/3"},
		{19, two, "19: 0/0 0/1 3/3 = 3/4"},
		{20, three, "20: 1/2 0/1 3/3 = 4/6"},
		{20, none, "20: 0/0 0/0 0/0 = 0/0"},
	} {
		wantOneRing(t, x.bytes, 30, 10, x.now, 0, x.tells)
	}
	for _, now := range []int64{0, 1, 9, 10, 11, 19} {
		wantNoRing(t, three, 30, 10, now)
		if now < 10 {
			wantNoRing(t, two, 30, 10, now)
		}
	}
	// of events that are all bad there is something, too
	wantNoRing(t, written(count(0, 1), count(0, 0), count(0, 0)), 30, 10, 19)
	wantNoRing(t, written(count(0, 1<<63-1), count(0, 0), count(0, 0)), 30, 10, 19)
}

// P19.4: readers that are nil, or bad already.
func TestGetOfBadReaders(t *testing.T) {
	for _, now := range []int64{0, 25, -1, math.MaxInt64} {
		for _, window := range []int64{10, 30, 3600, 0, -10} {
			if r := ring.Get(nil, window, 10, now); r != nil {
				t.Errorf("nil: %s", told(r))
			}
			x := wire.New(make([]byte, 200))
			x.Count(-1)
			if r := ring.Get(x, window, 10, now); r != nil || !x.Bad() || x.End() != api.Torn {
				t.Errorf("bad: %s", told(r))
			}
			if r := ring.Get(new(wire.Reader), window, 10, now); r != nil {
				t.Errorf("a reader of no bytes: %s", told(r))
			}
		}
	}
}

// P19.4 and P19.5: put behind a Move that goes half round, or round and on, and got at the same now, both tell the same from then on.
func TestPutAndGot(t *testing.T) {
	r := rand.New(rand.NewSource(192))
	for range 300 {
		window, grain := anyShape(r)
		a, m := aRing(t, window, grain), newModel(window, grain)
		deeds := &doer{Rand: r}
		for now := range int64(4) {
			at := (m.many/2 + 1 + now) * m.width * now
			a.Move(at)
			m.move(at)
			for range 8 {
				at := max(0, at-r.Int63n(window))
				c := count(uint64(r.Intn(3)), 3)
				a.Add(at, c)
				m.add(at, c)
			}
			front := []string{"", "x", strings.Repeat("\xff", 20)}[r.Intn(3)]
			b := a.Put([]byte(front))
			if string(b) != front+written(m.buckets()...) {
				t.Fatalf("%s is put as %x behind %x", told(a), b, front)
			}
			other, n := wantGet(t, string(b[len(front):])+"more", window, grain, at)
			if other == nil {
				t.Fatalf("%s isn't got", told(a))
			}
			for range 30 {
				deeds.do(t, other, n)
			}
		}
		wantRing(t, a, m)
	}
}

// P19.4 of bytes that are nearly right: pieces are left out, doubled, changed, at any now.
func TestAnyBytes(t *testing.T) {
	r := rand.New(rand.NewSource(193))
	d := &doer{Rand: r}
	rights := 0
	for range 60000 {
		window := []int64{1, 2, 3, 4, 5, 61, 122}[r.Intn(7)]
		many, width := shape(window, 1)
		var l []api.Count
		for i := range many {
			l = append(l, count(uint64(r.Intn(2)), uint64(1+r.Intn(300))))
			if i < many/2 && r.Intn(2) == 0 {
				l[i] = api.Count{}
			}
		}
		if r.Intn(3) == 0 {
			l[r.Intn(len(l))] = d.count()
		}
		s := spoiled(r, written(l...))
		now := []int64{r.Int63n(window + 1), (many - 1) * width, r.Int63n(api.MaxTick + 1), api.MaxTick, -1, api.MaxTick + 1}[min(r.Intn(6), r.Intn(6))]
		got, m := wantGet(t, s, window, 1, now)
		if got == nil {
			continue
		}
		rights++
		for range 3 {
			d.do(t, got, m)
		}
	}
	if rights < 10000 || rights > 50000 {
		t.Error(rights)
	}
}

// spoiled bytes, in a few ways, or as they were.
func spoiled(r *rand.Rand, s string) string {
	b := []byte(s)
	i := r.Intn(len(b))
	switch r.Intn(8) {
	case 0:
		b = b[:i]
	case 1:
		b = slices.Insert(b, i, byte(r.Intn(20)))
	case 2:
		b = slices.Delete(b, i, i+1)
	case 3:
		b[i] = byte(r.Intn(256))
	case 4:
		b[i]++
	case 5:
		b = append(b, byte(r.Intn(256)))
	}
	return string(b)
}
