package span_test

import (
	"fmt"
	"math"
	"math/big"
	"math/rand"
	"regexp"
	"strings"
	"testing"
	"unicode/utf8"

	"firebell/api"
	"firebell/span"
)

const (
	most = api.MaxTick
	week = 604800
	day  = 86400
	hour = 3600
	top  = math.MaxInt64
	deep = math.MinInt64
)

// nones are no spans: just outside of them, at ends, and what has low bits that would be a span.
var nones = []int64{
	-1, -2, -59, -60, -week, -most, -most - 1, math.MinInt32, deep, deep + 1, deep + 60,
	most + 1, most + 2, 2 * most, 1 << 38, 1 << 40, 1<<62 + 5, top - 1, top,
}

var letters = []string{"w", "d", "h", "m", "s"}

var ticks = map[string]int64{"w": week, "d": day, "h": hour, "m": 60, "s": 1}

// spans are those at which a print turns: beside multiples of each unit, and at both ends; then any, of all sizes.
func spans() []int64 {
	var l []int64
	for _, unit := range []int64{1, 60, hour, day, week, most} {
		for _, many := range []int64{0, 1, 2, 3, 6, 7, 9, 10, 23, 24, 59, 60, 100, most / unit} {
			for beside := int64(-2); beside <= 2; beside++ {
				if n := many*unit + beside; n >= 0 && n <= most {
					l = append(l, n)
				}
			}
		}
	}
	r := rand.New(rand.NewSource(41))
	for range 20000 {
		l = append(l, r.Int63n(most+1)>>r.Intn(38))
	}
	return l
}

// printed is what fmt makes of a span.
func printed(n int64) string {
	s := ""
	for _, x := range []struct {
		many   int64
		letter string
	}{{n / week, "w"}, {n / day % 7, "d"}, {n / hour % 24, "h"}, {n / 60 % 60, "m"}, {n % 60, "s"}} {
		if x.many > 0 {
			s += fmt.Sprint(x.many, x.letter)
		}
	}
	if s == "" {
		return "0s"
	}
	return s
}

// written is what the chapter calls a text of a span, but that this takes the empty one, too.
var written = regexp.MustCompile(`^(?:([0-9]+)w)?(?:([0-9]+)d)?(?:([0-9]+)h)?(?:([0-9]+)m)?(?:([0-9]+)s)?$`)

// told is what big numbers say of Read.
func told(s string) (int64, api.Code) {
	pieces := written.FindStringSubmatch(s)
	if s == "" || pieces == nil {
		return 0, api.Word
	}
	sum := new(big.Int)
	for i, letter := range letters {
		if number, ok := new(big.Int).SetString(pieces[i+1], 10); ok {
			sum.Add(sum, number.Mul(number, big.NewInt(ticks[letter])))
		}
	}
	if sum.Cmp(big.NewInt(most)) > 0 {
		return 0, api.Range
	}
	return sum.Int64(), api.Fine
}

// exact is what big numbers say of Exact.
func exact(s string) (int64, api.Code) {
	n, c := told(s)
	if c == api.Fine && printed(n) != s {
		return 0, api.Word
	}
	return n, c
}

func wantRead(t *testing.T, s string, n int64, c api.Code) {
	t.Helper()
	if m, d := span.Read(s); m != n || d != c {
		t.Errorf("Read(%q): %d, %d, not %d, %d", s, m, d, n, c)
	}
}

func wantExact(t *testing.T, s string, n int64, c api.Code) {
	t.Helper()
	if m, d := span.Exact(s); m != n || d != c {
		t.Errorf("Exact(%q): %d, %d, not %d, %d", s, m, d, n, c)
	}
}

// refused: neither Read nor Exact takes it.
func refused(t *testing.T, s string, c api.Code) {
	t.Helper()
	wantRead(t, s, 0, c)
	wantExact(t, s, 0, c)
}

// P4.1: Print; what it prints is read, and exact (P4.3).

func TestPrintByHand(t *testing.T) {
	for n, want := range map[int64]string{
		0: "0s", 1: "1s", 9: "9s", 10: "10s", 59: "59s",
		60: "1m", 61: "1m1s", 119: "1m59s", 120: "2m", 3599: "59m59s",
		3600: "1h", 3601: "1h1s", 3660: "1h1m", 3661: "1h1m1s", 5400: "1h30m", 86399: "23h59m59s",
		86400: "1d", 86401: "1d1s", 86460: "1d1m", 90000: "1d1h", 90001: "1d1h1s", 90061: "1d1h1m1s", 604799: "6d23h59m59s",
		604800: "1w", 604801: "1w1s", 604860: "1w1m", 608400: "1w1h", 691200: "1w1d", 691201: "1w1d1s", 694861: "1w1d1h1m1s",
		1209599: "1w6d23h59m59s", 1209600: "2w", 2592000: "4w2d", 31536000: "52w1d", 6048000: "10w", 60480000: "100w",
		most - 172799: "418985w", most - 1: "418985w1d23h59m58s", most: "418985w1d23h59m59s",
	} {
		if s := span.Print(n); s != want {
			t.Errorf("Print(%d): %q, not %q", n, s, want)
		}
		wantRead(t, want, n, api.Fine)
		wantExact(t, want, n, api.Fine)
	}
}

func TestPrintOfNone(t *testing.T) {
	for _, n := range nones {
		if s := span.Print(n); s != "?" {
			t.Errorf("Print(%d): %q", n, s)
		}
	}
	refused(t, "?", api.Word)
}

func TestPrintIsReadAndExact(t *testing.T) {
	check := func(n int64) {
		want := printed(n)
		if s := span.Print(n); s != want {
			t.Fatalf("Print(%d): %q, not %q", n, s, want)
		}
		if m, c := span.Read(want); m != n || c != api.Fine {
			t.Fatalf("Read(%q): %d, %d", want, m, c)
		}
		if m, c := span.Exact(want); m != n || c != api.Fine {
			t.Fatalf("Exact(%q): %d, %d", want, m, c)
		}
	}
	for n := range int64(week + 2*day) {
		check(n)
	}
	for _, n := range spans() {
		check(n)
		check(most - n)
	}
}

// P4.1: Read of what isn't a print; Exact refuses that.

func TestReadOfOtherThanPrints(t *testing.T) {
	for s, want := range map[string]int64{
		// more of a unit than the greater ones leave room for
		"60s": 60, "90m": 5400, "100s": 100, "60m": 3600, "24h": day, "36h": 129600, "7d": week, "30d": 2592000, "1h60s": 3660, "1w7d": 2 * week,
		"86400s": day, "1d24h60m60s": 176460, "418984w8d23h59m59s": most,
		// noughts ahead
		"00s": 0, "01s": 1, "007s": 7, "1h01m": 3660, "01h1m": 3660, "00000000000000000000000000000000000001w": week,
		// pieces of nought
		"0m": 0, "0h": 0, "0d": 0, "0w": 0, "0w0s": 0, "0w0d0h0m0s": 0, "1h0s": hour, "0h1s": 1, "1h0m1s": 3601, "0w1d": day,
		// a number, a piece and a sum that are the greatest span
		"253402300799s": most, "4223371679m59s": most, "70389527h59m59s": most, "2932896d86399s": most, "418985w172799s": most,
		"000253402300799s": most, "0w253402300799s": most, "418985w1d23h3599s": most,
		"4223371679m": most - 59, "70389527h": most - 3599, "2932896d": most - 86399, "0418985w": most - 172799,
	} {
		wantRead(t, s, want, api.Fine)
		wantExact(t, s, 0, api.Word)
	}
}

func TestReadOfManyNoughts(t *testing.T) {
	noughts := strings.Repeat("0", 100000)
	for s, want := range map[string]int64{
		noughts + "s":                           0,
		noughts + "7s":                          7,
		noughts + "253402300799s":               most,
		noughts + "418985w" + noughts + "1d":    most - 86399,
		"1w" + noughts + "d" + noughts + "1h0s": week + hour,
	} {
		wantRead(t, s, want, api.Fine)
		wantExact(t, s, 0, api.Word)
	}
	refused(t, noughts+"253402300800s", api.Range)
	refused(t, noughts, api.Word)
	refused(t, noughts+"1", api.Word)
}

// P4.1: Word.

func TestReadWord(t *testing.T) {
	for _, s := range []string{
		// nothing, digits without a unit, and units without digits
		"", "0", "5", "00", "60", "253402300799", "w", "d", "h", "m", "s", "wdhms", "hs", "m5", "s5", "h5s", "mm", "5ms", "5hm", "5hs5", "hm5s", "1h5", "1h0", "1w1d1h1m1", "1w1d1h1m1s1", "s1s", "w1d",
		// one unit twice, or units that grow
		"1h1h", "1s1s", "1w1w", "1d1d", "1m1m", "0s0s", "1hh", "1h1m1m", "1h1m1h", "1w1d1w", "1m1h", "1s1m", "1h1d", "1d1w", "1s1w", "1s1m1h1d1w", "0s1m", "0m0h", "1w1s1m", "1w1h1d", "1d1m1h1s",
		// other letters, capitals, and other signs
		"1y", "1M", "1H", "1D", "1W", "1S", "1x", "5min", "1hr", "1sec", "1n", "1g", "1i", "1l", "1r", "1t", "1v", "1c", "1e", "0x1s", "1e2s", "1_0s", "1,5h", "5:00", "1/2h", "/s", ":s", "1:s", "1/s", "5%", "?", "?s",
		"1м", "1с", "1ԁ", "1ｍ", "1ſ", "٥s", "５s", "½h", "1\u0301s", "1s\u0301",
		// signs, spaces and points
		"-1h", "+1h", "-0s", "+0s", "--1s", "1-1s", "1h-1m", "1h+1m", "1-s", "1h-", " 1h", "1h ", "1 h", "1h 1m", " ", "\t1h", "1h\n", "\n", "1\u00a0h", "1.5h", "1.h", ".5h", "1.0s", "1h.", ".",
		// bytes that are no rune's, and what stands for them
		"\x00", "1\x00s", "1s\x00", "\xff", "1\xff", "1\xffs", "\xff1s", "1s\xff", "1h\xff1m", "\xc0\xb1s", "1\xe6\x8d", "1\xf3s", "1\x80h", "1\xedd", "1\xef\xbf\xbd", "\ufffd", "1\ufffds", "1s\ufffd",
	} {
		refused(t, s, api.Word)
	}
}

func TestReadWordOfEachByte(t *testing.T) {
	for b := range 256 {
		one := string([]byte{byte(b)})
		for _, s := range []string{one, "1" + one, one + "1s", "1h" + one, "1h" + one + "1s", "1h1" + one, "1h1" + one + "1s", "1" + one + "s"} {
			n, c := told(s)
			wantRead(t, s, n, c)
			n, c = exact(s)
			wantExact(t, s, n, c)
		}
	}
}

// P4.1: Range.

func TestReadRange(t *testing.T) {
	for _, s := range []string{
		// a piece's number
		"253402300800s", "253402300800m", "253402300800w", "253402300801s", "999999999999s", "1000000000000s", "0253402300800s",
		"2147483648w", "4294967296w", "4294967296d", "4294967296h", "4294967296m",
		// what would be a span, or below 0, if it went round at 64 bits
		"9223372036854775807s", "9223372036854775808s", "9223372036854775809s", "18446744073709551615s", "18446744073709551616s", "18446744073709551617s", "18446744073709551676s",
		"307445734561825861m", "30500568904943w", "30500568904944w", "15250284452472w", "213503982334602d", "5124095576030432h", "153722867280912931m",
		"36893488147419103232s", "340282366920938463463374607431768211456s", "340282366920938463463374607431768211457s",
		// a piece
		"418986w", "2932897d", "70389528h", "4223371680m", "0418986w", "253402300799w", "253402300799d", "253402300799h", "253402300799m", "0w4223371680m",
		// all together
		"418985w2d", "418985w172800s", "418985w1d24h", "418985w1d23h60m", "418985w1d23h59m60s", "4223371679m60s", "70389527h60m", "2932896d24h", "1m253402300740s", "1w253402300799s", "253402300799m253402300799s",
		"253402300799w253402300799d253402300799h253402300799m253402300799s", "253402300800m0s", "418986w0s", "418986w1s", "9223372036854775807w9223372036854775807d1s", "30500568904944w1s",
	} {
		refused(t, s, api.Range)
	}
	for _, n := range []int{20, 39, 40, 1000, 1000000} {
		for _, letter := range letters {
			refused(t, strings.Repeat("9", n)+letter, api.Range)
			refused(t, "1"+strings.Repeat("0", n)+letter, api.Range)
		}
	}
}

// P4.1: Word is looked for in all of the text, Range behind it.

func TestReadWordAheadOfRange(t *testing.T) {
	nines := strings.Repeat("9", 100000)
	for _, s := range []string{
		nines, nines + "s1", nines + "s1s", nines + "s1m", nines + "S", nines + " s", nines + "s ", "-" + nines + "s", "+" + nines + "s", nines + ".5s", nines + "s\xff", nines + "\xffs", nines + "w" + nines, nines + "d" + nines + "w",
		"253402300800", "253402300800x", "253402300800s5", "253402300800s1s", "418986w1", "418986w1w", "418986ww", "418986wd", "418986w-1d", "418985w2d1", "418985w2d1d", "418985w2d1w", "418985w2d ", "1w253402300799s1m",
	} {
		refused(t, s, api.Word)
	}
}

// P4.1: Exact tells Range of what Read does, whether or not it looks like a print.

func TestExactRangeAheadOfWord(t *testing.T) {
	for s, want := range map[string]api.Code{
		"418985w2d": api.Range, "418985w1d23h59m60s": api.Range, "0000418986w": api.Range, "418986w0h": api.Range, "0w253402300800s": api.Range, "4223371680m0s": api.Range, "60m253402300799s": api.Range,
		"418985w1d23h59m059s": api.Word, "0w1s": api.Word, "60m": api.Word, "0m": api.Word, "00s": api.Word, "253402300799s": api.Word, "1w0s": api.Word, "1h60s": api.Word, "": api.Word, "1m1h": api.Word,
	} {
		wantExact(t, s, 0, want)
	}
}

// P4.1: all short texts of digits, units, and two that are none.

func TestReadAllShortTexts(t *testing.T) {
	const signs = "027wdhmsx"
	texts := []string{""}
	for range 6 {
		var more []string
		for _, s := range texts {
			for i := range len(signs) {
				more = append(more, s+signs[i:i+1])
			}
		}
		for _, s := range more {
			n, c := told(s)
			if m, d := span.Read(s); m != n || d != c {
				t.Fatalf("Read(%q): %d, %d, not %d, %d", s, m, d, n, c)
			}
			n, c = exact(s)
			if m, d := span.Exact(s); m != n || d != c {
				t.Fatalf("Exact(%q): %d, %d, not %d, %d", s, m, d, n, c)
			}
		}
		texts = more
	}
}

// P4.1: pieces of all sizes, in order and out of it.

func TestReadAnyPieces(t *testing.T) {
	r := rand.New(rand.NewSource(42))
	codes := map[api.Code]int{}
	for range 50000 {
		s := ""
		for _, letter := range letters {
			if r.Intn(2) == 0 {
				continue
			}
			if r.Intn(20) == 0 {
				letter = letters[r.Intn(len(letters))]
			}
			number := most / ticks[letter] >> r.Intn(40)
			s += strings.Repeat("0", r.Intn(2)*r.Intn(3)) + fmt.Sprint(number+int64(r.Intn(3))) + letter
		}
		n, c := told(s)
		codes[c]++
		wantRead(t, s, n, c)
		n, c = exact(s)
		wantExact(t, s, n, c)
	}
	for _, c := range []api.Code{api.Fine, api.Word, api.Range} {
		if codes[c] < 1000 {
			t.Errorf("only %d of code %d", codes[c], c)
		}
	}
}

func TestReadAnyBytes(t *testing.T) {
	r := rand.New(rand.NewSource(43))
	for range 50000 {
		b := make([]byte, r.Intn(9))
		r.Read(b)
		if i := r.Intn(9); i < len(b) {
			copy(b[i:], fmt.Sprint(r.Intn(100), letters[r.Intn(len(letters))]))
		}
		s := string(b)
		n, c := told(s)
		wantRead(t, s, n, c)
		n, c = exact(s)
		wantExact(t, s, n, c)
	}
}

// P4.2: Unit.

func TestUnit(t *testing.T) {
	for letter, want := range map[rune]int64{'w': 604800, 'd': 86400, 'h': 3600, 'm': 60, 's': 1} {
		if n := span.Unit(letter); n != want {
			t.Errorf("Unit(%q): %d, not %d", letter, n, want)
		}
	}
}

func TestUnitOfOtherRunes(t *testing.T) {
	check := func(r rune) {
		t.Helper()
		if r >= 0 && r < utf8.RuneSelf && ticks[string(r)] != 0 {
			return
		}
		if n := span.Unit(r); n != 0 {
			t.Errorf("Unit(%d): %d", r, n)
		}
	}
	for r := rune(-70000); r <= utf8.MaxRune+70000; r++ {
		check(r)
	}
	for _, r := range "WDHMSy0159 -+.?\x00\ufffd" {
		check(r)
	}
	for _, letter := range "wdhms" {
		// Those whose low bits are a unit's letter.
		for _, high := range []rune{1 << 8, 1 << 16, 1 << 24, 1 << 30, math.MinInt32} {
			check(letter + high)
		}
		check(-letter)
	}
	for _, r := range []rune{-1, math.MinInt32, math.MinInt32 + 1, math.MaxInt32, math.MaxInt32 - 1} {
		check(r)
	}
}

// P4.2: Round.

func TestRoundByHand(t *testing.T) {
	for _, x := range [][3]int64{
		// by hand: a multiple itself, what is just above one, and just below
		{0, 1, 0}, {0, 7, 0}, {1, 7, 7}, {6, 7, 7}, {7, 7, 7}, {8, 7, 14}, {13, 7, 14}, {14, 7, 14}, {59, 60, 60}, {60, 60, 60}, {61, 60, 120}, {5400, 3600, 7200}, {604799, 604800, 604800}, {604801, 604800, 1209600},
		{5, 5, 5}, {5, 6, 6}, {5, 4, 8}, {1, 2, 2}, {3, 1000, 1000},
		// by 1
		{1, 1, 1}, {most - 1, 1, most - 1}, {most, 1, most},
		// by the greatest span, and beside it
		{0, most, 0}, {1, most, most}, {most - 1, most, most}, {most, most, most}, {1, most - 1, most - 1}, {most - 1, most - 1, most - 1}, {most, most - 1, most}, {2, most - 2, most - 2},
		// by more than that
		{0, most + 1, 0}, {1, most + 1, 1}, {most, most + 1, most}, {5, 1 << 60, 5}, {0, 1 << 60, 0}, {0, top, 0}, {1, top, 1}, {most, top, most}, {most, top - 1, most}, {most, top - most, most}, {1, top - 1, 1}, {2, 1 << 62, 2},
		// a multiple that is no span, and the last one that is
		{most, 1000, most}, {most - 798, 1000, most - 798}, {most - 799, 1000, most - 799}, {most - 800, 1000, most - 799}, {most - 1798, 1000, most - 799},
		{most, 2, most}, {most - 1, 2, most - 1}, {most - 2, 2, most - 1}, {most, 60, most}, {most - 58, 60, most - 58}, {most - 59, 60, most - 59}, {most - 60, 60, most - 59},
		{most, 3, most}, {most - 1, 3, most - 1}, {most - 2, 3, most - 2}, {most - 3, 3, most - 2}, {most, 7, most}, {most, week, most},
		{most / 2, most/2 + 1, most/2 + 1}, {most/2 + 2, most/2 + 1, most/2 + 2}, {most/2 + 2, most / 2, most - 1}, {most / 3 * 2, most / 3, most / 3 * 2}, {most/3*2 + 1, most / 3, most - 2},
	} {
		if n := span.Round(x[0], x[1]); n != x[2] {
			t.Errorf("Round(%d, %d): %d, not %d", x[0], x[1], n, x[2])
		}
	}
}

func TestRoundRefuses(t *testing.T) {
	units := []int64{1, 2, 60, week, most, most + 1, top}
	below := []int64{0, -1, -2, -60, -most, -most - 1, deep, deep + 1}
	for _, n := range nones {
		for _, unit := range append(below, units...) {
			if m := span.Round(n, unit); m != 0 {
				t.Errorf("Round(%d, %d): %d", n, unit, m)
			}
		}
	}
	for _, n := range []int64{0, 1, 5, 60, week, most - 1, most} {
		for _, unit := range below {
			if m := span.Round(n, unit); m != 0 {
				t.Errorf("Round(%d, %d): %d", n, unit, m)
			}
		}
	}
}

func TestRoundStepByStep(t *testing.T) {
	for unit := int64(1); unit <= 130; unit++ {
		multiple := int64(0)
		for n := range int64(400) {
			if multiple < n {
				multiple += unit
			}
			if m := span.Round(n, unit); m != multiple {
				t.Fatalf("Round(%d, %d): %d, not %d", n, unit, m, multiple)
			}
		}
	}
}

// rounded is what big numbers say of Round, of a span and a unit above 0.
func rounded(n, unit int64) int64 {
	by := big.NewInt(unit)
	m := new(big.Int).Add(big.NewInt(n), new(big.Int).Sub(by, big.NewInt(1)))
	m.Quo(m, by).Mul(m, by)
	if m.Cmp(big.NewInt(most)) > 0 {
		return n
	}
	return m.Int64()
}

func TestRoundByBigNumbers(t *testing.T) {
	units := []int64{1, 2, 3, 7, 60, hour, day, week, most/2 - 1, most / 2, most/2 + 1, most - 1, most, most + 1, 1 << 60, top - most, top - 1, top}
	r := rand.New(rand.NewSource(44))
	for range 30 {
		units = append(units, r.Int63n(most)>>r.Intn(37)+1, r.Int63()>>r.Intn(60)+1)
	}
	for _, n := range spans() {
		for _, unit := range units {
			if m := span.Round(n, unit); m != rounded(n, unit) {
				t.Fatalf("Round(%d, %d): %d, not %d", n, unit, m, rounded(n, unit))
			}
			if m := span.Round(most-n, unit); m != rounded(most-n, unit) {
				t.Fatalf("Round(%d, %d): %d, not %d", most-n, unit, m, rounded(most-n, unit))
			}
		}
	}
}
