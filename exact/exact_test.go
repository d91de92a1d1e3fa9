package exact_test

import (
	"math"
	"math/big"
	"math/rand"
	"slices"
	"strings"
	"testing"

	"firebell/api"
	"firebell/exact"
)

const (
	top  = math.MaxUint64
	half = uint64(1) << 63
)

var full = wide(top, top)

func wide(hi, lo uint64) api.Wide {
	return api.Wide{Hi: hi, Lo: lo}
}

func low(n uint64) api.Wide {
	return api.Wide{Lo: n}
}

// sized is what big numbers say of a number.
func sized(a api.Wide) *big.Int {
	n := new(big.Int).SetUint64(a.Hi)
	return n.Lsh(n, 64).Or(n, new(big.Int).SetUint64(a.Lo))
}

// fitting is a big number, and whether 128 bits hold it.
func fitting(n *big.Int) (api.Wide, bool) {
	if n.Sign() < 0 || n.BitLen() > 128 {
		return api.Wide{}, false
	}
	hi := new(big.Int).Rsh(n, 64)
	lo := new(big.Int).And(n, new(big.Int).SetUint64(top))
	return wide(hi.Uint64(), lo.Uint64()), true
}

// edges are the 64 bits at which something carries, is borrowed, or goes over.
func edges() []uint64 {
	return []uint64{0, 1, 2, 3, 9, 10, 11, 1 << 32, 1<<32 - 1, half - 1, half, half + 1, top / 10, top/10 + 1, top - 1, top}
}

func wides() []api.Wide {
	var l []api.Wide
	for _, hi := range edges() {
		for _, lo := range edges() {
			l = append(l, wide(hi, lo))
		}
	}
	return l
}

// anyBits has numbers of all lengths, so that small ones come up, too.
func anyBits(r *rand.Rand) uint64 {
	return r.Uint64() >> r.Intn(64)
}

func anyWides() []api.Wide {
	r := rand.New(rand.NewSource(1))
	var l []api.Wide
	for range 500 {
		l = append(l, wide(anyBits(r), anyBits(r)), low(anyBits(r)))
	}
	return l
}

func wantWide(t *testing.T, what string, got api.Wide, c api.Code, want *big.Int) {
	t.Helper()
	w, ok := fitting(want)
	wantCode := api.Fine
	if !ok {
		wantCode = api.Over
	}
	if got != w || c != wantCode {
		t.Errorf("%s: %v, %v, and not %v, %v", what, got, c, w, wantCode)
	}
}

// P1.1

func TestAdd(t *testing.T) {
	for _, x := range []struct {
		a, b, want api.Wide
		code       api.Code
	}{
		{low(0), low(0), low(0), api.Fine},
		{low(2), low(3), low(5), api.Fine},
		{low(top), low(1), wide(1, 0), api.Fine},
		{low(top), low(top), wide(1, top-1), api.Fine},
		{wide(1, 2), wide(3, 4), wide(4, 6), api.Fine},
		{wide(top-1, top), low(1), wide(top, 0), api.Fine},
		{wide(half, 0), wide(half-1, top), full, api.Fine},
		{full, low(0), full, api.Fine},
		{full, low(1), low(0), api.Over},
		{low(1), full, low(0), api.Over},
		{full, full, low(0), api.Over},
		{wide(half, 0), wide(half, 0), low(0), api.Over},
		{wide(half, 7), wide(half, 8), low(0), api.Over},
		{wide(top, 1), wide(0, top), low(0), api.Over},
	} {
		if got, c := exact.Add(x.a, x.b); got != x.want || c != x.code {
			t.Errorf("Add(%v, %v): %v, %v, and not %v, %v", x.a, x.b, got, c, x.want, x.code)
		}
	}
}

func TestLess(t *testing.T) {
	for _, x := range []struct {
		a, b, want api.Wide
		code       api.Code
	}{
		{low(0), low(0), low(0), api.Fine},
		{low(5), low(3), low(2), api.Fine},
		{wide(1, 0), low(1), low(top), api.Fine},
		{wide(5, 3), wide(2, 4), wide(2, top), api.Fine},
		{full, full, low(0), api.Fine},
		{full, low(0), full, api.Fine},
		{wide(7, 7), wide(7, 7), low(0), api.Fine},
		{low(1), low(2), low(0), api.Over},
		{low(0), full, low(0), api.Over},
		{wide(1, top), wide(2, 0), low(0), api.Over},
		{wide(7, 7), wide(7, 8), low(0), api.Over},
		{low(top), wide(1, 0), low(0), api.Over},
	} {
		if got, c := exact.Less(x.a, x.b); got != x.want || c != x.code {
			t.Errorf("Less(%v, %v): %v, %v, and not %v, %v", x.a, x.b, got, c, x.want, x.code)
		}
	}
}

func TestCompare(t *testing.T) {
	for _, x := range []struct {
		a, b api.Wide
		want int
	}{
		{low(0), low(0), 0},
		{full, full, 0},
		{wide(3, 4), wide(3, 4), 0},
		{low(1), low(2), -1},
		{low(2), low(1), 1},
		{wide(1, 0), low(top), 1},
		{low(top), wide(1, 0), -1},
		{wide(1, top), wide(2, 0), -1},
		{wide(2, 0), wide(1, top), 1},
		{wide(2, 1), wide(2, 2), -1},
		{wide(2, 2), wide(2, 1), 1},
		{wide(half, 0), wide(half-1, top), 1},
		{low(half), low(half - 1), 1},
		{low(0), full, -1},
	} {
		if got := exact.Compare(x.a, x.b); got != x.want {
			t.Errorf("Compare(%v, %v): %v, and not %v", x.a, x.b, got, x.want)
		}
	}
}

func TestTimes(t *testing.T) {
	for _, x := range []struct {
		a, b uint64
		want api.Wide
	}{
		{0, 0, low(0)},
		{0, top, low(0)},
		{top, 0, low(0)},
		{1, top, low(top)},
		{6, 7, low(42)},
		{1 << 32, 1 << 32, wide(1, 0)},
		{half, 2, wide(1, 0)},
		{top, 2, wide(1, top-1)},
		{top, top, wide(top-1, 1)},
	} {
		if got := exact.Times(x.a, x.b); got != x.want {
			t.Errorf("Times(%v, %v): %v, and not %v", x.a, x.b, got, x.want)
		}
	}
}

func TestMore(t *testing.T) {
	for _, x := range []struct {
		a    api.Wide
		n    uint64
		want api.Wide
		code api.Code
	}{
		{low(0), 0, low(0), api.Fine},
		{full, 0, low(0), api.Fine},
		{full, 1, full, api.Fine},
		{low(6), 7, low(42), api.Fine},
		{wide(1, top), 3, wide(5, top-2), api.Fine},
		{low(top), top, wide(top-1, 1), api.Fine},
		{wide(1, 0), top, wide(top, 0), api.Fine},
		{wide(half-1, top), 2, wide(top, top-1), api.Fine},
		{wide(1, 1), top, full, api.Fine},
		{wide(1, 2), top, low(0), api.Over},
		{wide(half, 0), 2, low(0), api.Over},
		{wide(2, 0), top, low(0), api.Over},
		{full, 2, low(0), api.Over},
		{full, top, low(0), api.Over},
		{wide(top/3, top/3), 3, full, api.Fine},
		{wide(top/3, top/3+1), 3, low(0), api.Over},
	} {
		if got, c := exact.More(x.a, x.n); got != x.want || c != x.code {
			t.Errorf("More(%v, %v): %v, %v, and not %v, %v", x.a, x.n, got, c, x.want, x.code)
		}
	}
}

func TestSumsAndProductsByBigNumbers(t *testing.T) {
	check := func(a, b api.Wide) {
		t.Helper()
		x, y := sized(a), sized(b)
		got, c := exact.Add(a, b)
		wantWide(t, "Add", got, c, new(big.Int).Add(x, y))
		got, c = exact.Less(a, b)
		wantWide(t, "Less", got, c, new(big.Int).Sub(x, y))
		if got := exact.Compare(a, b); got != x.Cmp(y) {
			t.Errorf("Compare(%v, %v): %v", a, b, got)
		}
		got, c = exact.More(a, b.Lo)
		wantWide(t, "More", got, c, new(big.Int).Mul(x, sized(low(b.Lo))))
		wantWide(t, "Times", exact.Times(a.Hi, b.Lo), api.Fine, new(big.Int).Mul(sized(low(a.Hi)), sized(low(b.Lo))))
	}
	for _, a := range wides() {
		for _, b := range wides() {
			check(a, b)
		}
	}
	l := anyWides()
	for i, a := range l {
		check(a, l[len(l)-1-i])
	}
}

// P1.2

func TestFloor(t *testing.T) {
	for _, x := range []struct {
		a    api.Wide
		n    uint64
		want api.Wide
		left uint64
		code api.Code
	}{
		{low(0), 1, low(0), 0, api.Fine},
		{low(7), 2, low(3), 1, api.Fine},
		{low(6), 2, low(3), 0, api.Fine},
		{low(6), 7, low(0), 6, api.Fine},
		{low(7), 7, low(1), 0, api.Fine},
		{full, 1, full, 0, api.Fine},
		{full, 2, wide(half-1, top), 1, api.Fine},
		{full, top, wide(1, 1), 0, api.Fine},
		{wide(1, 0), 10, low(1844674407370955161), 6, api.Fine},
		{wide(1, 0), top, low(1), 1, api.Fine},
		{wide(top-1, top), top, low(top), top - 1, api.Fine},
		{wide(7, 0), 7, wide(1, 0), 0, api.Fine},
		{wide(6, 5), 7, low(15811494920322472814), 3, api.Fine},
		{low(0), 0, low(0), 0, api.Zero},
		{low(5), 0, low(0), 0, api.Zero},
		{full, 0, low(0), 0, api.Zero},
	} {
		if got, left, c := exact.Floor(x.a, x.n); got != x.want || left != x.left || c != x.code {
			t.Errorf("Floor(%v, %v): %v, %v, %v, and not %v, %v, %v", x.a, x.n, got, left, c, x.want, x.left, x.code)
		}
	}
}

func TestCeil(t *testing.T) {
	for _, x := range []struct {
		a    api.Wide
		n    uint64
		want api.Wide
		code api.Code
	}{
		{low(0), 1, low(0), api.Fine},
		{low(0), top, low(0), api.Fine},
		{low(1), top, low(1), api.Fine},
		{low(6), 2, low(3), api.Fine},
		{low(7), 2, low(4), api.Fine},
		{low(7), 3, low(3), api.Fine},
		{full, 1, full, api.Fine},
		{full, 2, wide(half, 0), api.Fine},
		{wide(1, top), 2, wide(1, 0), api.Fine},
		{full, top, wide(1, 1), api.Fine},
		{wide(1, 0), top, low(2), api.Fine},
		{low(0), 0, low(0), api.Zero},
		{full, 0, low(0), api.Zero},
	} {
		if got, c := exact.Ceil(x.a, x.n); got != x.want || c != x.code {
			t.Errorf("Ceil(%v, %v): %v, %v, and not %v, %v", x.a, x.n, got, c, x.want, x.code)
		}
	}
}

func TestQuotientsByBigNumbers(t *testing.T) {
	check := func(a api.Wide, n uint64) {
		t.Helper()
		if n == 0 {
			return
		}
		q, left := new(big.Int).QuoRem(sized(a), sized(low(n)), new(big.Int))
		got, l, c := exact.Floor(a, n)
		wantWide(t, "Floor", got, c, q)
		if l != left.Uint64() {
			t.Errorf("Floor(%v, %v): %v is left, and not %v", a, n, l, left)
		}
		if left.Sign() > 0 {
			q.Add(q, big.NewInt(1))
		}
		got, c = exact.Ceil(a, n)
		wantWide(t, "Ceil", got, c, q)
	}
	for _, a := range append(wides(), anyWides()...) {
		for _, n := range edges() {
			check(a, n)
		}
		check(a, a.Hi)
		check(a, a.Lo)
	}
}

func TestRatio(t *testing.T) {
	for _, x := range []struct {
		a, b, c, d uint64
		want       int
		code       api.Code
	}{
		{1, 3, 334, 1000, -1, api.Fine},
		{1, 3, 333, 1000, 1, api.Fine},
		{334, 1000, 1, 3, 1, api.Fine},
		{2, 4, 1, 2, 0, api.Fine},
		{0, 5, 0, top, 0, api.Fine},
		{0, 1, 1, top, -1, api.Fine},
		{1, top, 0, 1, 1, api.Fine},
		{1, 1, top, top, 0, api.Fine},
		{top, top - 1, top - 1, top - 2, -1, api.Fine},
		{top - 1, top - 2, top, top - 1, 1, api.Fine},
		{top, 1, top - 1, 1, 1, api.Fine},
		{1, top, 1, top - 1, -1, api.Fine},
		{half, 1, 1, 2, 1, api.Fine},
		{1, 0, 1, 1, 0, api.Zero},
		{1, 1, 1, 0, 0, api.Zero},
		{1, 0, 1, 0, 0, api.Zero},
		{0, 0, 1, 1, 0, api.Zero},
		{2, 1, 0, 0, 0, api.Zero},
		{0, 0, 0, 0, 0, api.Zero},
	} {
		if got, c := exact.Ratio(x.a, x.b, x.c, x.d); got != x.want || c != x.code {
			t.Errorf("Ratio(%v, %v, %v, %v): %v, %v, and not %v, %v", x.a, x.b, x.c, x.d, got, c, x.want, x.code)
		}
	}
}

func TestRatioByBigNumbers(t *testing.T) {
	for _, a := range edges() {
		for _, b := range edges()[1:] {
			for _, c := range edges() {
				for _, d := range edges()[1:] {
					want := new(big.Rat).SetFrac(sized(low(a)), sized(low(b))).Cmp(new(big.Rat).SetFrac(sized(low(c)), sized(low(d))))
					if got, code := exact.Ratio(a, b, c, d); got != want || code != api.Fine {
						t.Fatalf("Ratio(%v, %v, %v, %v): %v, %v, and not %v", a, b, c, d, got, code, want)
					}
				}
			}
		}
	}
}

func TestSum(t *testing.T) {
	for _, x := range []struct {
		l    []uint64
		want uint64
		code api.Code
	}{
		{nil, 0, api.Fine},
		{[]uint64{}, 0, api.Fine},
		{[]uint64{0}, 0, api.Fine},
		{[]uint64{5}, 5, api.Fine},
		{[]uint64{top}, top, api.Fine},
		{[]uint64{1, 2, 3, 4}, 10, api.Fine},
		{[]uint64{top - 1, 1}, top, api.Fine},
		{[]uint64{0, top, 0, 0}, top, api.Fine},
		{[]uint64{half, half - 1}, top, api.Fine},
		{[]uint64{top, 1}, 0, api.Over},
		{[]uint64{1, top}, 0, api.Over},
		{[]uint64{half, half}, 0, api.Over},
		{[]uint64{top, top, 2}, 0, api.Over},
		{[]uint64{1, 2, top, 0}, 0, api.Over},
	} {
		given := slices.Clone(x.l)
		if got, c := exact.Sum(x.l); got != x.want || c != x.code {
			t.Errorf("Sum(%v): %v, %v, and not %v, %v", given, got, c, x.want, x.code)
		}
		if !slices.Equal(given, x.l) {
			t.Errorf("Sum(%v) left %v behind", given, x.l)
		}
	}
}

// P1.3

func TestPrint(t *testing.T) {
	for _, x := range []struct {
		a    api.Wide
		want string
	}{
		{low(0), "0"},
		{low(1), "1"},
		{low(9), "9"},
		{low(10), "10"},
		{low(100), "100"},
		{low(907), "907"},
		{low(9999999999999999999), "9999999999999999999"},
		{low(10000000000000000000), "10000000000000000000"},
		{low(top), "18446744073709551615"},
		{wide(1, 0), "18446744073709551616"},
		{wide(5, 7766279631452241920), "100000000000000000000"},
		{wide(half, 0), "170141183460469231731687303715884105728"},
		{full, "340282366920938463463374607431768211455"},
	} {
		if got := exact.Print(x.a); got != x.want {
			t.Errorf("Print(%v): %v, and not %v", x.a, got, x.want)
		}
	}
	for _, a := range append(wides(), anyWides()...) {
		if got := exact.Print(a); got != sized(a).String() {
			t.Errorf("Print(%v): %v, and not %v", a, got, sized(a))
		}
	}
}

func TestReadNumbers(t *testing.T) {
	for s, want := range map[string]api.Wide{
		"0":                    low(0),
		"7":                    low(7),
		"10":                   low(10),
		"1234567890":           low(1234567890),
		"18446744073709551615": low(top),
		"18446744073709551616": wide(1, 0),
		"340282366920938463463374607431768211449": wide(top, top-6),
		"340282366920938463463374607431768211450": wide(top, top-5),
		"340282366920938463463374607431768211455": full,
	} {
		if got, c := exact.Read(s); got != want || c != api.Fine {
			t.Errorf("Read(%q): %v, %v, and not %v", s, got, c, want)
		}
	}
}

func wantRefused(t *testing.T, s string, want api.Code) {
	t.Helper()
	if got, c := exact.Read(s); got != low(0) || c != want {
		t.Errorf("Read(%q): %v, %v, and not 0, %v", s, got, c, want)
	}
}

func TestReadBeyond(t *testing.T) {
	for _, s := range []string{
		"340282366920938463463374607431768211456",
		"340282366920938463463374607431768211459",
		"340282366920938463463374607431768211460",
		"340282366920938463463374607431768211465",
		"400000000000000000000000000000000000000",
		"680564733841876926926749214863536422912",
		"999999999999999999999999999999999999999",
		"1000000000000000000000000000000000000000",
		"3402823669209384634633746074317682114550",
		"1" + strings.Repeat("0", 400),
		strings.Repeat("9", 5000),
	} {
		wantRefused(t, s, api.Over)
	}
}

func TestReadWords(t *testing.T) {
	over := "340282366920938463463374607431768211456"
	for _, s := range []string{
		"", " ", "a", "-", "+", ".", "-1", "+1", "-0", "00", "01", "007", " 1", "1 ", "1\n", "\t1", "1 2",
		"1a", "a1", "1a1", "0x1", "1e3", "1.0", "1,000", "1_000", "/", ":", "1/", "1:", "0a", "0 ",
		"\x00", "1\x00", "\x001", "\xff", "1\xff", "\xff1", "1\xff1", "\x80", "\xc0\xb1", "1\xed\xa0\x80", "\xf8", "\xf4\x90\x80\x80",
		"\ufffd", "1\ufffd", "\u0661", "1\u0661", "\uff11", "1\uff11", "\u00b2", "\u00bd", "\u0131", "\u0130", "\U00010030", "\U0001d7ce", "\u0030\u0301",
		"0" + over, "00" + over, over + "a", "a" + over, over + "\xff", over + " ", "-" + over,
		strings.Repeat("0", 43), strings.Repeat("0", 43) + "1", strings.Repeat("9", 43) + "x", strings.Repeat("9", 5000) + "\xff",
	} {
		wantRefused(t, s, api.Word)
	}
}

// TestReadAnyShort holds every text of up to two bytes against what a print of such a length is.
func TestReadAnyShort(t *testing.T) {
	digit := func(b int) bool { return b >= '0' && b <= '9' }
	for a := range 256 {
		s := string([]byte{byte(a)})
		if !digit(a) {
			wantRefused(t, s, api.Word)
		} else if got, c := exact.Read(s); got != low(uint64(a-'0')) || c != api.Fine {
			t.Errorf("Read(%q): %v, %v", s, got, c)
		}
		for b := range 256 {
			s := string([]byte{byte(a), byte(b)})
			if !digit(a) || !digit(b) || a == '0' {
				wantRefused(t, s, api.Word)
			} else if got, c := exact.Read(s); got != low(uint64(a-'0')*10+uint64(b-'0')) || c != api.Fine {
				t.Errorf("Read(%q): %v, %v", s, got, c)
			}
		}
	}
}

// P1.4

func TestFlooredTimesAndLeftAreTheNumber(t *testing.T) {
	for _, a := range append(wides(), anyWides()...) {
		for _, n := range append(edges()[1:], a.Lo|1, a.Hi|1) {
			q, left, c := exact.Floor(a, n)
			if c != api.Fine || left >= n {
				t.Errorf("Floor(%v, %v): %v is left, %v", a, n, left, c)
			}
			times, c := exact.More(q, n)
			if c != api.Fine {
				t.Errorf("Floor(%v, %v) times %v: %v", a, n, n, c)
			}
			if got, c := exact.Add(times, low(left)); got != a || c != api.Fine {
				t.Errorf("Floor(%v, %v) times %v, and what is left: %v, %v", a, n, n, got, c)
			}
		}
	}
}

func TestPrintedIsRead(t *testing.T) {
	for _, a := range append(wides(), anyWides()...) {
		if got, c := exact.Read(exact.Print(a)); got != a || c != api.Fine {
			t.Errorf("Read(Print(%v)): %v, %v", a, got, c)
		}
	}
	// Around each power of ten a digit comes to it.
	power := low(1)
	for range 39 {
		below, _ := exact.Less(power, low(1))
		for _, a := range []api.Wide{below, power} {
			if got, c := exact.Read(exact.Print(a)); got != a || c != api.Fine || exact.Print(a) != sized(a).String() {
				t.Errorf("Read(Print(%v)): %v, %v", a, got, c)
			}
		}
		power, _ = exact.More(power, 10)
	}
}
