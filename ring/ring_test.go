package ring_test

import (
	"math"
	"math/rand"
	"slices"
	"strconv"
	"testing"

	"firebell/api"
	"firebell/ring"
	"firebell/wire"
)

// step is what is done to a ring, its code, and what the ring tells behind it.
type step struct {
	do   func(*ring.Ring) api.Code
	code api.Code
	told string
}

func move(now int64) func(*ring.Ring) api.Code {
	return func(r *ring.Ring) api.Code { return r.Move(now) }
}

func add(at int64, good, total uint64) func(*ring.Ring) api.Code {
	return func(r *ring.Ring) api.Code { return r.Add(at, count(good, total)) }
}

func reset(r *ring.Ring) api.Code {
	r.Reset()
	return api.Fine
}

// wantSteps goes through all steps by one ring; behind a code that isn't Fine all has to be as it was.
func wantSteps(t *testing.T, window, grain int64, l ...step) *ring.Ring {
	t.Helper()
	r := aRing(t, window, grain)
	for i, s := range l {
		before, bytes := told(r), string(r.Put(nil))
		if s.told == "" {
			s.told = before
		}
		if c := s.do(r); c != s.code || told(r) != s.told {
			t.Fatalf("step %d behind %s: code %d, not %d; %s, not %s", i, before, c, s.code, told(r), s.told)
		}
		if s.code != api.Fine && string(r.Put(nil)) != bytes {
			t.Fatalf("step %d behind %s: code %d, and %x is put, not %x", i, before, s.code, r.Put(nil), bytes)
		}
	}
	return r
}

// P19.2: a new ring, whose first numbers are below 0.
func TestBeginning(t *testing.T) {
	wantSteps(t, 30, 10,
		step{move(0), api.Fine, "0: 0/0 0/0 0/0 = 0/0"},
		step{add(0, 1, 2), api.Fine, "0: 0/0 0/0 1/2 = 1/2"},
		step{add(1, 1, 1), api.Early, ""},
		step{add(-1, 1, 1), api.Range, ""},
		step{move(9), api.Fine, "9: 0/0 0/0 1/2 = 1/2"},
		step{add(9, 0, 3), api.Fine, "9: 0/0 0/0 1/5 = 1/5"},
		step{move(10), api.Fine, "10: 0/0 1/5 0/0 = 1/5"},
		step{add(10, 7, 7), api.Fine, "10: 0/0 1/5 7/7 = 8/12"},
		step{add(0, 1, 1), api.Fine, "10: 0/0 2/6 7/7 = 9/13"},
		step{move(20), api.Fine, "20: 2/6 7/7 0/0 = 9/13"},
		step{move(29), api.Fine, "29: 2/6 7/7 0/0 = 9/13"},
		step{add(0, 0, 1), api.Fine, "29: 2/7 7/7 0/0 = 9/14"},
		step{move(30), api.Fine, "30: 7/7 0/0 0/0 = 7/7"},
		step{add(9, 1, 1), api.Late, ""},
		step{add(0, 1, 1), api.Late, ""},
		step{add(10, 1, 1), api.Fine, "30: 8/8 0/0 0/0 = 8/8"},
	)
}

// P19.2: moves by no, some, all, more buckets.
func TestMove(t *testing.T) {
	full := []step{
		{move(35), api.Fine, "35: 0/0 0/0 0/0 0/0 = 0/0"},
		{add(35, 4, 4), api.Fine, "35: 0/0 0/0 0/0 4/4 = 4/4"},
		{add(5, 1, 1), api.Fine, "35: 1/1 0/0 0/0 4/4 = 5/5"},
		{add(29, 0, 3), api.Fine, "35: 1/1 0/0 0/3 4/4 = 5/8"},
		{add(10, 2, 2), api.Fine, "35: 1/1 2/2 0/3 4/4 = 7/10"},
	}
	for _, s := range []step{
		{move(35), api.Fine, "35: 1/1 2/2 0/3 4/4 = 7/10"},
		{move(36), api.Fine, "36: 1/1 2/2 0/3 4/4 = 7/10"},
		{move(39), api.Fine, "39: 1/1 2/2 0/3 4/4 = 7/10"},
		{move(40), api.Fine, "40: 2/2 0/3 4/4 0/0 = 6/9"},
		{move(49), api.Fine, "49: 2/2 0/3 4/4 0/0 = 6/9"},
		{move(50), api.Fine, "50: 0/3 4/4 0/0 0/0 = 4/7"},
		{move(65), api.Fine, "65: 4/4 0/0 0/0 0/0 = 4/4"},
		{move(69), api.Fine, "69: 4/4 0/0 0/0 0/0 = 4/4"},
		{move(70), api.Fine, "70: 0/0 0/0 0/0 0/0 = 0/0"},
		{move(75), api.Fine, "75: 0/0 0/0 0/0 0/0 = 0/0"},
		{move(80), api.Fine, "80: 0/0 0/0 0/0 0/0 = 0/0"},
		{move(1000000), api.Fine, "1000000: 0/0 0/0 0/0 0/0 = 0/0"},
		{move(api.MaxTick), api.Fine, "253402300799: 0/0 0/0 0/0 0/0 = 0/0"},
		{move(34), api.Late, ""},
		{move(30), api.Late, ""},
		{move(29), api.Late, ""},
		{move(0), api.Late, ""},
		{move(-1), api.Range, ""},
		{move(math.MinInt64), api.Range, ""},
		{move(api.MaxTick + 1), api.Range, ""},
		{move(math.MaxInt64), api.Range, ""},
	} {
		wantSteps(t, 40, 10, append(slices.Clone(full), s)...)
	}
}

// P19.2: what comes behind the last tick of all is refused.
func TestLastTick(t *testing.T) {
	wantSteps(t, 20, 10,
		step{move(api.MaxTick), api.Fine, "253402300799: 0/0 0/0 = 0/0"},
		step{add(api.MaxTick, 1, 2), api.Fine, "253402300799: 0/0 1/2 = 1/2"},
		step{add(253402300790, 1, 1), api.Fine, "253402300799: 0/0 2/3 = 2/3"},
		step{add(253402300789, 0, 1), api.Fine, "253402300799: 0/1 2/3 = 2/4"},
		step{add(253402300780, 0, 1), api.Fine, "253402300799: 0/2 2/3 = 2/5"},
		step{add(253402300779, 0, 1), api.Late, ""},
		step{add(api.MaxTick+1, 0, 1), api.Range, ""},
		step{move(api.MaxTick), api.Fine, ""},
		step{move(api.MaxTick + 1), api.Range, ""},
		step{move(api.MaxTick - 1), api.Late, ""},
	)
}

// P19.2 and P19.3 of buckets one tick wide.
func TestWidthOne(t *testing.T) {
	wantSteps(t, 3, 1,
		step{add(0, 1, 1), api.Fine, "0: 0/0 0/0 1/1 = 1/1"},
		step{move(1), api.Fine, "1: 0/0 1/1 0/0 = 1/1"},
		step{add(1, 2, 2), api.Fine, "1: 0/0 1/1 2/2 = 3/3"},
		step{add(2, 2, 2), api.Early, ""},
		step{move(2), api.Fine, "2: 1/1 2/2 0/0 = 3/3"},
		step{move(3), api.Fine, "3: 2/2 0/0 0/0 = 2/2"},
		step{add(0, 1, 1), api.Late, ""},
		step{add(1, 0, 1), api.Fine, "3: 2/3 0/0 0/0 = 2/3"},
		step{move(4), api.Fine, "4: 0/0 0/0 0/0 = 0/0"},
	)
}

// P19.2 and P19.3 of one bucket.
func TestOneBucket(t *testing.T) {
	for _, grain := range []int64{1, 61} {
		wantSteps(t, 61, grain,
			step{add(0, 1, 1), api.Fine, "0: 1/1 = 1/1"},
			step{move(60), api.Fine, "60: 1/1 = 1/1"},
			step{add(0, 1, 1), api.Fine, "60: 2/2 = 2/2"},
			step{add(60, 1, 1), api.Fine, "60: 3/3 = 3/3"},
			step{move(61), api.Fine, "61: 0/0 = 0/0"},
			step{add(60, 1, 1), api.Late, ""},
			step{add(61, 0, 1), api.Fine, "61: 0/1 = 0/1"},
			step{move(121), api.Fine, "121: 0/1 = 0/1"},
			step{move(122), api.Fine, "122: 0/0 = 0/0"},
		)
	}
	wantSteps(t, 1, 1,
		step{add(0, 1, 1), api.Fine, "0: 1/1 = 1/1"},
		step{move(0), api.Fine, ""},
		step{move(1), api.Fine, "1: 0/0 = 0/0"},
		step{add(0, 1, 1), api.Late, ""},
	)
}

// P19.2: counts with no good ones, with good ones alone, of nothing.
func TestAdd(t *testing.T) {
	wantSteps(t, 30, 10,
		step{move(1000), api.Fine, "1000: 0/0 0/0 0/0 = 0/0"},
		step{add(1000, 0, 5), api.Fine, "1000: 0/0 0/0 0/5 = 0/5"},
		step{add(990, 6, 6), api.Fine, "1000: 0/0 6/6 0/5 = 6/11"},
		step{add(999, 0, 0), api.Fine, "1000: 0/0 6/6 0/5 = 6/11"},
		step{add(999, 1, 3), api.Fine, "1000: 0/0 7/9 0/5 = 7/14"},
		step{add(980, 0, 1), api.Fine, "1000: 0/1 7/9 0/5 = 7/15"},
		step{add(989, 0, 1), api.Fine, "1000: 0/2 7/9 0/5 = 7/16"},
		step{add(979, 0, 1), api.Late, ""},
		step{add(979, 0, 0), api.Late, ""},
		step{add(0, 0, 1), api.Late, ""},
		step{add(1001, 0, 1), api.Early, ""},
		step{add(1001, 0, 0), api.Early, ""},
		step{add(api.MaxTick, 0, 1), api.Early, ""},
		step{add(1000, 1, 0), api.Counts, ""},
		step{add(1000, 6, 5), api.Counts, ""},
		step{add(1000, math.MaxUint64, math.MaxUint64-1), api.Counts, ""},
		step{add(1000, math.MaxUint64, 0), api.Counts, ""},
		step{add(-1, 0, 1), api.Range, ""},
		step{add(-1, 0, 0), api.Range, ""},
		step{add(math.MinInt64, 0, 1), api.Range, ""},
		step{add(api.MaxTick+1, 0, 1), api.Range, ""},
		step{add(math.MaxInt64, 0, 1), api.Range, ""},
	)
}

// P19.2: sums of just MaxCount, and of more.
func TestSated(t *testing.T) {
	wantSteps(t, 30, 10,
		step{move(25), api.Fine, "25: 0/0 0/0 0/0 = 0/0"},
		step{add(0, 0, 1<<63), api.Sated, ""},
		step{add(25, 0, math.MaxUint64), api.Sated, ""},
		step{add(25, math.MaxUint64, math.MaxUint64), api.Sated, ""},
		step{add(3, 2, 1<<63-1), api.Fine, "25: 2/9223372036854775807 0/0 0/0 = 2/9223372036854775807"},
		step{add(25, 0, 1), api.Sated, ""},
		step{add(3, 0, 1), api.Sated, ""},
		step{add(3, 1, 1), api.Sated, ""},
		// with these the sum would go round
		step{add(25, 0, 1<<63+1), api.Sated, ""},
		step{add(25, 0, 1<<63+2), api.Sated, ""},
		step{add(25, 0, math.MaxUint64), api.Sated, ""},
		step{add(25, 0, 0), api.Fine, ""},
		step{move(29), api.Fine, "29: 2/9223372036854775807 0/0 0/0 = 2/9223372036854775807"},
		step{add(29, 0, 1), api.Sated, ""},
		// its bucket is gone, so there is room again
		step{move(30), api.Fine, "30: 0/0 0/0 0/0 = 0/0"},
		step{add(30, 5, 9), api.Fine, "30: 0/0 0/0 5/9 = 5/9"},
		step{add(20, 0, 1<<63-9), api.Sated, ""},
		step{add(20, 0, 1<<63-10), api.Fine, "30: 0/0 0/9223372036854775798 5/9 = 5/9223372036854775807"},
		step{add(10, 0, 1), api.Sated, ""},
		step{reset, api.Fine, "30: 0/0 0/0 0/0 = 0/0"},
		step{add(10, 1<<63-1, 1<<63-1), api.Fine, "30: 9223372036854775807/9223372036854775807 0/0 0/0 = 9223372036854775807/9223372036854775807"},
		step{add(30, 0, 1), api.Sated, ""},
	)
}

// P19.2: of several the first one is told.
func TestOrder(t *testing.T) {
	r := wantSteps(t, 30, 10,
		step{move(100), api.Fine, "100: 0/0 0/0 0/0 = 0/0"},
		step{add(100, 0, 1<<63-1), api.Fine, "100: 0/0 0/0 0/9223372036854775807 = 0/9223372036854775807"},
		step{add(-1, 2, 1), api.Counts, ""},
		step{add(api.MaxTick+1, 2, 1), api.Counts, ""},
		step{add(101, 2, 1), api.Counts, ""},
		step{add(0, 2, 1), api.Counts, ""},
		step{add(100, math.MaxUint64, 1<<63), api.Counts, ""},
		step{add(-1, 0, 1), api.Range, ""},
		step{add(math.MinInt64, 0, math.MaxUint64), api.Range, ""},
		step{add(api.MaxTick+1, 0, 1), api.Range, ""},
		step{add(math.MaxInt64, 0, math.MaxUint64), api.Range, ""},
		step{add(101, 0, 1), api.Early, ""},
		step{add(101, 0, math.MaxUint64), api.Early, ""},
		step{add(79, 0, 1), api.Late, ""},
		step{add(79, 0, math.MaxUint64), api.Late, ""},
		step{add(80, 0, 1), api.Sated, ""},
	)
	for _, nobody := range []*ring.Ring{nil, {}} {
		if c := nobody.Add(-1, count(2, 1)); c != api.Nil {
			t.Errorf("Add: %d", c)
		}
		if c := nobody.Move(-1); c != api.Nil {
			t.Errorf("Move: %d", c)
		}
	}
	if c := r.Move(-1); c != api.Range {
		t.Errorf("Move: %d", c)
	}
}

// P19.3: Reset leaves now.
func TestReset(t *testing.T) {
	wantSteps(t, 30, 10,
		step{reset, api.Fine, "0: 0/0 0/0 0/0 = 0/0"},
		step{move(25), api.Fine, "25: 0/0 0/0 0/0 = 0/0"},
		step{add(5, 1, 1), api.Fine, "25: 1/1 0/0 0/0 = 1/1"},
		step{add(15, 2, 2), api.Fine, "25: 1/1 2/2 0/0 = 3/3"},
		step{add(25, 3, 3), api.Fine, "25: 1/1 2/2 3/3 = 6/6"},
		step{reset, api.Fine, "25: 0/0 0/0 0/0 = 0/0"},
		step{reset, api.Fine, "25: 0/0 0/0 0/0 = 0/0"},
		step{move(24), api.Late, ""},
		step{add(26, 0, 1), api.Early, ""},
		step{add(5, 0, 1), api.Fine, "25: 0/1 0/0 0/0 = 0/1"},
		step{move(30), api.Fine, "30: 0/0 0/0 0/0 = 0/0"},
		step{add(30, 1, 4), api.Fine, "30: 0/0 0/0 1/4 = 1/4"},
		step{add(9, 1, 4), api.Late, ""},
	)
}

// R1 and the words of the functions: nobody is there.
func TestNobody(t *testing.T) {
	for _, r := range []*ring.Ring{nil, {}, new(ring.Ring)} {
		for _, at := range []int64{0, 1, -1, math.MinInt64, math.MaxInt64} {
			if c := r.Move(at); c != api.Nil {
				t.Errorf("Move(%d): %d", at, c)
			}
			for _, x := range []api.Count{{}, count(1, 2), count(2, 1), count(0, math.MaxUint64)} {
				if c := r.Add(at, x); c != api.Nil {
					t.Errorf("Add(%d, %s): %d", at, shown(x), c)
				}
			}
		}
		r.Reset()
		if told(r) != "0: = 0/0" {
			t.Error(told(r))
		}
		for _, b := range [][]byte{nil, {}, []byte("abc")} {
			if got := r.Put(b); string(got) != string(b) {
				t.Errorf("Put(%x): %x", b, got)
			}
		}
	}
}

// Rule of the language: what is told is the caller's.
func TestToldIsTheCallers(t *testing.T) {
	r := wantSteps(t, 30, 10,
		step{move(25), api.Fine, "25: 0/0 0/0 0/0 = 0/0"},
		step{add(15, 2, 3), api.Fine, "25: 0/0 2/3 0/0 = 2/3"},
	)
	l, again := r.Buckets(), r.Buckets()
	for i := range l {
		l[i] = count(7, 9)
	}
	if told(r) != "25: 0/0 2/3 0/0 = 2/3" || again[1] != count(2, 3) {
		t.Error(told(r), again)
	}
	l = r.Buckets()
	r.Add(25, count(1, 1))
	r.Move(55)
	r.Reset()
	if !slices.Equal(l, []api.Count{{}, count(2, 3), {}}) {
		t.Error(l)
	}
}

// Two rings have nothing in common.
func TestTwo(t *testing.T) {
	a, b := aRing(t, 30, 10), aRing(t, 30, 10)
	a.Move(15)
	a.Add(15, count(1, 2))
	if told(a) != "15: 0/0 0/0 1/2 = 1/2" || told(b) != "0: 0/0 0/0 0/0 = 0/0" {
		t.Error(told(a), told(b))
	}
}

// doer does one and the same to a ring and to its model.
type doer struct {
	*rand.Rand
	told [api.Known]int
}

// near a tick, by about so many; often just at the ends of buckets.
func (d *doer) near(m *model, at int64) int64 {
	switch d.Intn(8) {
	case 0:
		return at
	case 1:
		return at + 1 - d.Int63n(3)
	case 2:
		return (m.number(at) + d.Int63n(m.many+2) - m.many/2) * m.width
	case 3:
		return (m.number(at)+d.Int63n(m.many+2)-m.many/2)*m.width - 1
	case 4:
		return (m.eldest() + d.Int63n(3) - 1) * m.width
	case 5:
		return at - d.Int63n(m.many*m.width+m.width+1)
	}
	return at + d.Int63n(2*m.width+1) - m.width
}

// tick is one, or none, about now.
func (d *doer) tick(m *model) int64 {
	switch d.Intn(60) {
	case 0:
		return []int64{-1, math.MinInt64, math.MaxInt64, api.MaxTick + 1, api.MaxTick, 0}[d.Intn(6)]
	case 1:
		return d.Int63n(api.MaxTick)
	}
	return d.near(m, m.now)
}

// ahead: a tick from now on, mostly by some buckets, in a few cases by as many as there are, or more.
func (d *doer) ahead(m *model) int64 {
	switch d.Intn(12) {
	case 0:
		return d.tick(m)
	case 1:
		return m.now + m.many*m.width + d.Int63n(3) - 1
	case 2:
		return m.now + d.Int63n(2*m.many*m.width)
	}
	return m.now + d.Int63n(3*m.width)
}

func (d *doer) count() api.Count {
	n := []uint64{0, 1, uint64(d.Intn(9)), uint64(d.Intn(1000)), 1 << 61, 1<<62 + 1, 1<<63 - 1, 1 << 63, math.MaxUint64, d.Uint64()}
	all := n[min(d.Intn(len(n)), d.Intn(len(n)), d.Intn(len(n)))]
	good := []uint64{0, all, all / 2, all - all/3, all + 1, n[d.Intn(len(n))]}[min(d.Intn(6), d.Intn(6), d.Intn(6))]
	return count(good, all)
}

// do any one thing to both.
func (d *doer) do(t *testing.T, r *ring.Ring, m *model) {
	t.Helper()
	var what string
	var got, want api.Code
	switch n := d.Intn(200); {
	case n == 0:
		what = "Reset"
		m.events = nil
		r.Reset()
	case n < 60:
		now := d.ahead(m)
		what = "Move to " + strconv.FormatInt(now, 10)
		got, want = r.Move(now), m.move(now)
	default:
		at, c := d.tick(m), d.count()
		what = "Add of " + shown(c) + " at " + strconv.FormatInt(at, 10)
		got, want = r.Add(at, c), m.add(at, c)
	}
	d.told[want]++
	if got != want || told(r) != toldOf(m) {
		t.Fatalf("%s to a ring of %d times %d: %d, not %d;\n%s, not\n%s", what, m.many, m.width, got, want, told(r), toldOf(m))
	}
}

// anyShape: a window and a grain that go together.
func anyShape(r *rand.Rand) (window, grain int64) {
	grains := []int64{1, 2, 3, 7, 30, 58, 59, 60, 61, 77, 90, 120, 121, 400}[r.Intn(14)]
	grain = []int64{1, 2, 7, 10, 60, 3600, 86400}[r.Intn(7)]
	return grains * grain, grain
}

// P19.2, P19.3 and P19.5 of any rows of deeds; what is put in between is got, and goes on likewise.
func TestAnyDeeds(t *testing.T) {
	d := &doer{Rand: rand.New(rand.NewSource(191))}
	for range 600 {
		window, grain := anyShape(d.Rand)
		r, m := aRing(t, window, grain), newModel(window, grain)
		if d.Intn(3) == 0 {
			at := []int64{m.width * m.many, api.MaxTick - 3*m.width, d.Int63n(api.MaxTick)}[d.Intn(3)]
			if c := r.Move(at); c != m.move(at) {
				t.Fatal(c)
			}
		}
		for range 120 {
			d.do(t, r, m)
			if d.Intn(20) == 0 {
				r = ring.Get(wire.New(r.Put(nil)), window, grain, m.now)
				wantRing(t, r, m)
			}
		}
	}
	for _, c := range []api.Code{api.Fine, api.Counts, api.Range, api.Early, api.Late, api.Sated} {
		if d.told[c] < 400 {
			t.Errorf("code %d was told just %d times", c, d.told[c])
		}
	}
}
