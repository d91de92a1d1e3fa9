package signed_test

import (
	"math"
	"math/big"
	"math/rand"
	"strings"
	"testing"

	"firebell/api"
	"firebell/signed"
)

const (
	top  = math.MaxUint64
	half = uint64(1) << 63
)

const (
	fullPrint   = "340282366920938463463374607431768211455"
	beyondPrint = "340282366920938463463374607431768211456"
)

var (
	nought = api.Signed{}
	// wrong isn't right: 0 isn't below 0.
	wrong = api.Signed{Below: true}
	full  = wide(top, top)
)

func wide(hi, lo uint64) api.Wide {
	return api.Wide{Hi: hi, Lo: lo}
}

func low(n uint64) api.Wide {
	return api.Wide{Lo: n}
}

func up(size api.Wide) api.Signed {
	return api.Signed{Size: size}
}

func down(size api.Wide) api.Signed {
	return api.Signed{Below: true, Size: size}
}

// sized is what big numbers say of a size.
func sized(a api.Wide) *big.Int {
	n := new(big.Int).SetUint64(a.Hi)
	return n.Lsh(n, 64).Or(n, new(big.Int).SetUint64(a.Lo))
}

// valued is what big numbers say of a number: they know no 0 with a sign.
func valued(a api.Signed) *big.Int {
	if a.Below {
		return new(big.Int).Neg(sized(a.Size))
	}
	return sized(a.Size)
}

// fitting is a big number with its one right form, and whether a size of 128 bits holds it.
func fitting(n *big.Int) (api.Signed, bool) {
	size := new(big.Int).Abs(n)
	if size.BitLen() > 128 {
		return nought, false
	}
	hi := new(big.Int).Rsh(size, 64)
	lo := new(big.Int).And(size, new(big.Int).SetUint64(top))
	return api.Signed{Below: n.Sign() < 0, Size: wide(hi.Uint64(), lo.Uint64())}, true
}

// sizes are those at which something carries, is borrowed, or goes over.
func sizes() []api.Wide {
	halves := []uint64{0, 1, 2, 10, half - 1, half, half + 1, top - 1, top}
	var l []api.Wide
	for _, hi := range halves {
		for _, lo := range halves {
			l = append(l, wide(hi, lo))
		}
	}
	return l
}

// numbers are all edges with both signs, what isn't right among them.
func numbers() []api.Signed {
	var l []api.Signed
	for _, size := range sizes() {
		l = append(l, up(size), down(size))
	}
	return l
}

func anySizes() []api.Wide {
	r := rand.New(rand.NewSource(1))
	var l []api.Wide
	for range 200 {
		// Shifted, so that numbers of all lengths come up.
		hi, lo := r.Uint64()>>r.Intn(64), r.Uint64()>>r.Intn(64)
		l = append(l, wide(hi, lo), low(lo))
	}
	return l
}

func anyNumbers() []api.Signed {
	var l []api.Signed
	for i, size := range anySizes() {
		l = append(l, api.Signed{Below: i%4 < 2, Size: size})
	}
	return l
}

func wantSigned(t *testing.T, what string, got api.Signed, c api.Code, want *big.Int) {
	t.Helper()
	a, ok := fitting(want)
	wantCode := api.Fine
	if !ok {
		wantCode = api.Over
	}
	if got != a || c != wantCode {
		t.Errorf("%s: %v, %v, and not %v, %v", what, got, c, a, wantCode)
	}
}

// P2.1

func TestRight(t *testing.T) {
	for _, x := range []struct {
		a    api.Signed
		want bool
	}{
		{nought, true},
		{wrong, false},
		{up(low(1)), true},
		{down(low(1)), true},
		{up(wide(1, 0)), true},
		{down(wide(1, 0)), true},
		{down(low(half)), true},
		{up(full), true},
		{down(full), true},
	} {
		if got := signed.Right(x.a); got != x.want {
			t.Errorf("Right(%v): %v, and not %v", x.a, got, x.want)
		}
	}
	for _, a := range append(numbers(), anyNumbers()...) {
		want, _ := fitting(valued(a))
		if got := signed.Right(a); got != (a == want) {
			t.Errorf("Right(%v): %v", a, got)
		}
	}
}

func TestOf(t *testing.T) {
	for _, x := range []struct {
		n    int64
		want api.Signed
	}{
		{0, nought},
		{1, up(low(1))},
		{-1, down(low(1))},
		{42, up(low(42))},
		{-42, down(low(42))},
		{math.MaxInt64 - 1, up(low(half - 2))},
		{math.MaxInt64, up(low(half - 1))},
		{-math.MaxInt64, down(low(half - 1))},
		{math.MinInt64, down(low(half))},
	} {
		if got := signed.Of(x.n); got != x.want {
			t.Errorf("Of(%v): %v, and not %v", x.n, got, x.want)
		}
	}
}

func TestSmall(t *testing.T) {
	for _, x := range []struct {
		a    api.Signed
		want int64
		code api.Code
	}{
		{nought, 0, api.Fine},
		{wrong, 0, api.Fine},
		{up(low(1)), 1, api.Fine},
		{down(low(1)), -1, api.Fine},
		{up(low(907)), 907, api.Fine},
		{down(low(907)), -907, api.Fine},
		{up(low(half - 1)), math.MaxInt64, api.Fine},
		{down(low(half - 1)), -math.MaxInt64, api.Fine},
		{down(low(half)), math.MinInt64, api.Fine},
		{up(low(half)), 0, api.Over},
		{up(low(half + 1)), 0, api.Over},
		{down(low(half + 1)), 0, api.Over},
		{up(low(top)), 0, api.Over},
		{down(low(top)), 0, api.Over},
		{up(wide(1, 0)), 0, api.Over},
		{down(wide(1, 0)), 0, api.Over},
		{up(wide(1, 5)), 0, api.Over},
		{down(wide(1, 5)), 0, api.Over},
		{down(wide(1, half)), 0, api.Over},
		{down(wide(half, 0)), 0, api.Over},
		{up(full), 0, api.Over},
		{down(full), 0, api.Over},
	} {
		if got, c := signed.Small(x.a); got != x.want || c != x.code {
			t.Errorf("Small(%v): %v, %v, and not %v, %v", x.a, got, c, x.want, x.code)
		}
	}
	for _, a := range append(numbers(), anyNumbers()...) {
		want, wantCode := int64(0), api.Over
		if n := valued(a); n.IsInt64() {
			want, wantCode = n.Int64(), api.Fine
		}
		if got, c := signed.Small(a); got != want || c != wantCode {
			t.Errorf("Small(%v): %v, %v, and not %v, %v", a, got, c, want, wantCode)
		}
	}
}

func TestSmallOf(t *testing.T) {
	r := rand.New(rand.NewSource(2))
	l := []int64{0, 1, -1, math.MaxInt64, math.MaxInt64 - 1, math.MinInt64, math.MinInt64 + 1}
	for range 1000 {
		n := r.Int63() >> r.Intn(63)
		l = append(l, n, -n)
	}
	for _, n := range l {
		a := signed.Of(n)
		if got, c := signed.Small(a); got != n || c != api.Fine || !signed.Right(a) {
			t.Errorf("Small(Of(%v)): %v, %v", n, got, c)
		}
		wantSigned(t, "Of", a, api.Fine, big.NewInt(n))
	}
}

func TestNeg(t *testing.T) {
	for _, x := range []struct{ a, want api.Signed }{
		{nought, nought},
		{wrong, nought},
		{up(low(3)), down(low(3))},
		{down(low(3)), up(low(3))},
		{up(wide(1, 0)), down(wide(1, 0))},
		{down(wide(1, 0)), up(wide(1, 0))},
		{down(low(half)), up(low(half))},
		{up(full), down(full)},
		{down(full), up(full)},
	} {
		if got := signed.Neg(x.a); got != x.want {
			t.Errorf("Neg(%v): %v, and not %v", x.a, got, x.want)
		}
	}
	for _, a := range append(numbers(), anyNumbers()...) {
		wantSigned(t, "Neg", signed.Neg(a), api.Fine, new(big.Int).Neg(valued(a)))
	}
}

func TestBetween(t *testing.T) {
	for _, x := range []struct {
		a, b api.Wide
		want api.Signed
	}{
		{low(3), low(5), down(low(2))},
		{low(5), low(3), up(low(2))},
		{low(0), low(0), nought},
		{low(5), low(5), nought},
		{full, full, nought},
		{wide(7, 7), wide(7, 7), nought},
		{low(0), low(1), down(low(1))},
		{low(1), low(0), up(low(1))},
		{wide(1, 0), low(1), up(low(top))},
		{low(1), wide(1, 0), down(low(top))},
		{wide(2, 1), wide(1, 2), up(low(top))},
		{wide(1, 2), wide(2, 1), down(low(top))},
		{low(0), low(half), down(low(half))},
		{full, low(0), up(full)},
		{low(0), full, down(full)},
		{full, low(1), up(wide(top, top-1))},
		{wide(half, 0), wide(half-1, top), up(low(1))},
	} {
		if got := signed.Between(x.a, x.b); got != x.want {
			t.Errorf("Between(%v, %v): %v, and not %v", x.a, x.b, got, x.want)
		}
	}
	l := append(sizes(), anySizes()...)
	for _, a := range l {
		for _, b := range l {
			wantSigned(t, "Between", signed.Between(a, b), api.Fine, new(big.Int).Sub(sized(a), sized(b)))
		}
	}
}

// P2.2

func TestAdd(t *testing.T) {
	for _, x := range []struct {
		a, b, want api.Signed
		code       api.Code
	}{
		{nought, nought, nought, api.Fine},
		{up(low(2)), up(low(3)), up(low(5)), api.Fine},
		{down(low(2)), down(low(3)), down(low(5)), api.Fine},
		{up(low(5)), down(low(7)), down(low(2)), api.Fine},
		{up(low(7)), down(low(5)), up(low(2)), api.Fine},
		{down(low(5)), up(low(7)), up(low(2)), api.Fine},
		{down(low(7)), up(low(5)), down(low(2)), api.Fine},
		{down(low(7)), up(low(7)), nought, api.Fine},
		{up(low(7)), down(low(7)), nought, api.Fine},
		{up(full), down(full), nought, api.Fine},
		{down(full), up(full), nought, api.Fine},
		{nought, down(low(4)), down(low(4)), api.Fine},
		{down(low(4)), nought, down(low(4)), api.Fine},
		{up(low(top)), up(low(1)), up(wide(1, 0)), api.Fine},
		{down(low(top)), down(low(1)), down(wide(1, 0)), api.Fine},
		{up(wide(1, 0)), down(low(1)), up(low(top)), api.Fine},
		{down(wide(1, 0)), up(low(1)), down(low(top)), api.Fine},
		{up(wide(half, 0)), up(wide(half-1, top)), up(full), api.Fine},
		{down(wide(half, 0)), down(wide(half-1, top)), down(full), api.Fine},
		{up(full), nought, up(full), api.Fine},
		{down(full), nought, down(full), api.Fine},
		{up(full), down(low(1)), up(wide(top, top-1)), api.Fine},
		{down(full), up(low(1)), down(wide(top, top-1)), api.Fine},
		{up(full), up(low(1)), nought, api.Over},
		{up(low(1)), up(full), nought, api.Over},
		{down(full), down(low(1)), nought, api.Over},
		{down(low(1)), down(full), nought, api.Over},
		{up(full), up(full), nought, api.Over},
		{down(full), down(full), nought, api.Over},
		{up(wide(half, 0)), up(wide(half, 0)), nought, api.Over},
		{down(wide(half, 0)), down(wide(half, 0)), nought, api.Over},
		{wrong, wrong, nought, api.Fine},
		{wrong, nought, nought, api.Fine},
		{nought, wrong, nought, api.Fine},
		{wrong, up(low(5)), up(low(5)), api.Fine},
		{up(low(5)), wrong, up(low(5)), api.Fine},
		{wrong, down(low(5)), down(low(5)), api.Fine},
		{down(low(5)), wrong, down(low(5)), api.Fine},
		{wrong, up(full), up(full), api.Fine},
		{down(full), wrong, down(full), api.Fine},
	} {
		if got, c := signed.Add(x.a, x.b); got != x.want || c != x.code {
			t.Errorf("Add(%v, %v): %v, %v, and not %v, %v", x.a, x.b, got, c, x.want, x.code)
		}
	}
}

func TestCompare(t *testing.T) {
	// From the least one to the greatest one.
	l := []api.Signed{
		down(full), down(wide(half, 0)), down(wide(2, 1)), down(wide(1, 2)), down(wide(1, 0)), down(low(top)), down(low(half)), down(low(2)), down(low(1)),
		nought,
		up(low(1)), up(low(2)), up(low(half)), up(low(top)), up(wide(1, 0)), up(wide(1, 2)), up(wide(2, 1)), up(wide(half, 0)), up(full),
	}
	for i, a := range l {
		for k, b := range l {
			want := 0
			if i < k {
				want = -1
			}
			if i > k {
				want = 1
			}
			if got := signed.Compare(a, b); got != want {
				t.Errorf("Compare(%v, %v): %v, and not %v", a, b, got, want)
			}
		}
		if got, want := signed.Compare(wrong, a), signed.Compare(nought, a); got != want {
			t.Errorf("Compare(%v, %v): %v, and not %v", wrong, a, got, want)
		}
		if got, want := signed.Compare(a, wrong), signed.Compare(a, nought); got != want {
			t.Errorf("Compare(%v, %v): %v, and not %v", a, wrong, got, want)
		}
	}
	if got := signed.Compare(wrong, wrong); got != 0 {
		t.Errorf("Compare(%v, %v): %v", wrong, wrong, got)
	}
}

func TestAddAndCompareByBigNumbers(t *testing.T) {
	l := append(numbers(), anyNumbers()...)
	for _, a := range l {
		for _, b := range l {
			x, y := valued(a), valued(b)
			got, c := signed.Add(a, b)
			wantSigned(t, "Add", got, c, new(big.Int).Add(x, y))
			if got := signed.Compare(a, b); got != x.Cmp(y) {
				t.Errorf("Compare(%v, %v): %v", a, b, got)
			}
		}
	}
}

// P2.3

func TestPrint(t *testing.T) {
	for _, x := range []struct {
		a    api.Signed
		want string
	}{
		{nought, "0"},
		{wrong, "0"},
		{up(low(7)), "7"},
		{down(low(7)), "-7"},
		{up(low(10)), "10"},
		{down(low(10)), "-10"},
		{up(low(half - 1)), "9223372036854775807"},
		{down(low(half)), "-9223372036854775808"},
		{down(low(top)), "-18446744073709551615"},
		{up(wide(1, 0)), "18446744073709551616"},
		{down(wide(1, 0)), "-18446744073709551616"},
		{up(full), fullPrint},
		{down(full), "-" + fullPrint},
	} {
		if got := signed.Print(x.a); got != x.want {
			t.Errorf("Print(%v): %v, and not %v", x.a, got, x.want)
		}
	}
	for _, a := range append(numbers(), anyNumbers()...) {
		if got, want := signed.Print(a), valued(a).String(); got != want {
			t.Errorf("Print(%v): %v, and not %v", a, got, want)
		}
	}
}

func TestReadNumbers(t *testing.T) {
	for _, x := range []struct {
		s    string
		want api.Signed
	}{
		{"0", nought},
		{"7", up(low(7))},
		{"-7", down(low(7))},
		{"-1", down(low(1))},
		{"10", up(low(10))},
		{"-10", down(low(10))},
		{"9223372036854775807", up(low(half - 1))},
		{"-9223372036854775808", down(low(half))},
		{"-18446744073709551616", down(wide(1, 0))},
		{fullPrint, up(full)},
		{"-" + fullPrint, down(full)},
	} {
		if got, c := signed.Read(x.s); got != x.want || c != api.Fine {
			t.Errorf("Read(%q): %v, %v, and not %v", x.s, got, c, x.want)
		}
	}
}

func wantRefused(t *testing.T, s string, want api.Code) {
	t.Helper()
	if got, c := signed.Read(s); got != nought || c != want {
		t.Errorf("Read(%q): %v, %v, and not 0, %v", s, got, c, want)
	}
}

func TestReadBeyond(t *testing.T) {
	for _, digits := range []string{
		beyondPrint,
		"340282366920938463463374607431768211460",
		"999999999999999999999999999999999999999",
		fullPrint + "0",
		"1" + strings.Repeat("0", 400),
		strings.Repeat("9", 5000),
	} {
		wantRefused(t, digits, api.Over)
		wantRefused(t, "-"+digits, api.Over)
	}
}

func TestReadWords(t *testing.T) {
	for _, s := range []string{
		"", "-", "-0", "--", "--0", "--1", "---1", "-+1", "+-1", "+1", "+0", "+", "-00", "00", "01", "-01", "-007", "0-", "1-", "-1-", "0-1", "1-1", "-0-1",
		" ", " 1", " -1", "- 1", "-1 ", "-1\n", "-\n1", "1 2", "a", "-a", "a1", "-a1", "1a", "-1a", "-0x1", "-1e3", "-1.0", "-.", "-,1", "-1,000", "-1_000", "-/", "-:",
		"\x00", "-\x00", "\x00-1", "-1\x00", "\xff", "-\xff", "-1\xff", "\xff-1", "-\xff1", "-1\xff1", "\x80", "-\x80", "-\xc0\xb1", "-1\xed\xa0\x80", "-\xf4\x90\x80\x80", "\xe2\x88", "\xc0\xad1",
		"\ufffd", "-\ufffd", "\u22121", "\u20101", "\u2013" + "1", "\uff0d1", "\ufe631", "\u00ad1", "-\u0661", "-\uff11", "-1\u0661", "-\u00b2", "-\U0001d7ce", "-1\u0301", "-\u03011", "\ufeff-1",
		"-0" + beyondPrint, "0" + beyondPrint, "--" + beyondPrint, "-+" + beyondPrint, "-" + beyondPrint + "a", "-" + beyondPrint + "-", "-" + beyondPrint + "\xff", beyondPrint + "-", "-a" + beyondPrint,
		strings.Repeat("-", 5000), strings.Repeat("-", 5000) + "1", "-" + strings.Repeat("0", 43), "-" + strings.Repeat("9", 5000) + "\xff",
	} {
		wantRefused(t, s, api.Word)
	}
}

// short is the number whose print a text of up to three bytes is.
func short(s string) (int64, bool) {
	digits := strings.TrimPrefix(s, "-")
	n := int64(0)
	for i := range len(digits) {
		if digits[i] < '0' || digits[i] > '9' || digits[0] == '0' && s != "0" {
			return 0, false
		}
		n = n*10 + int64(digits[i]-'0')
	}
	if digits != s {
		n = -n
	}
	return n, digits != ""
}

// TestReadAnyShort holds every text of up to two bytes, and with each byte between two others, against what it prints.
func TestReadAnyShort(t *testing.T) {
	check := func(s string) {
		t.Helper()
		n, ok := short(s)
		if !ok {
			wantRefused(t, s, api.Word)
		} else if got, c := signed.Read(s); got != signed.Of(n) || c != api.Fine {
			t.Errorf("Read(%q): %v, %v, and not %v", s, got, c, n)
		}
	}
	for a := range 256 {
		check(string([]byte{byte(a)}))
		for b := range 256 {
			check(string([]byte{byte(a), byte(b)}))
			check(string([]byte{'-', byte(a), byte(b)}))
		}
	}
}

// P2.4

func TestPrintedIsRead(t *testing.T) {
	for _, a := range append(numbers(), anyNumbers()...) {
		want := a
		if a == wrong {
			want = nought
		}
		if got, c := signed.Read(signed.Print(a)); got != want || c != api.Fine {
			t.Errorf("Read(Print(%v)): %v, %v, and not %v", a, got, c, want)
		}
	}
}

func TestNumbersGoOn(t *testing.T) {
	check := func(a, b, c api.Wide) {
		t.Helper()
		got, code := signed.Add(signed.Between(a, b), signed.Between(b, c))
		if want := signed.Between(a, c); got != want || code != api.Fine {
			t.Errorf("between %v and %v, and %v: %v, %v, and not %v", a, b, c, got, code, want)
		}
	}
	l := sizes()
	for _, a := range l {
		for _, b := range l {
			for _, c := range l {
				check(a, b, c)
			}
		}
	}
	l = anySizes()
	for i, b := range l {
		check(l[(i+7)%len(l)], b, l[len(l)-1-i])
	}
}
