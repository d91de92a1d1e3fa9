package ppm_test

import (
	"fmt"
	"math"
	"math/big"
	"math/rand"
	"strings"
	"testing"

	"firebell/api"
	"firebell/exact"
	"firebell/ppm"
)

const (
	top     = math.MaxUint64
	million = api.Million
)

// nones are no shares: just above all parts, at ends, and what has low bits that would be a share.
var nones = []uint32{million + 1, million + 2, 2 * million, 1 << 20, 1 << 31, 1<<31 + 5, math.MaxUint32 - 1, math.MaxUint32}

// numbers are those of 64 bits at which products and what is left of them turn.
var numbers = []uint64{
	0, 1, 2, 3, 7, 10, 99, 100, 999, 9999, 10000,
	million - 1, million, million + 1, 2*million - 1, 2 * million,
	1<<32 - 1, 1 << 32, 1<<32 + 1,
	top/million - 1, top / million, top/million + 1, top/million + 2,
	1<<63 - 1, 1 << 63, 1<<63 + 1,
	top - million, top - 2, top - 1, top,
}

// shares are those at which a print turns.
var shares = []uint32{
	0, 1, 9, 10, 11, 99, 100, 101, 999, 1000, 1001, 9999, 10000, 10001, 10010, 10100, 11000,
	12345, 99999, 100000, 100001, 333333, 500000, 500001, 900000, 990000, 999000, 999900, 999990,
	million - 2, million - 1, million,
}

func number(n uint64) *big.Int {
	return new(big.Int).SetUint64(n)
}

func wide(a api.Wide) *big.Int {
	n := number(a.Hi)
	return n.Lsh(n, 64).Or(n, number(a.Lo))
}

// printed is what fmt makes of a share.
func printed(p uint32) string {
	s := fmt.Sprintf("%d.%04d", p/10000, p%10000)
	return strings.TrimSuffix(strings.TrimRight(s, "0"), ".") + "%"
}

func wantRead(t *testing.T, s string, p uint32, c api.Code) {
	t.Helper()
	if q, d := ppm.Read(s); q != p || d != c {
		t.Errorf("Read(%q): %d, %d, not %d, %d", s, q, d, p, c)
	}
}

// P3.1: Right.

func TestRight(t *testing.T) {
	for _, p := range shares {
		if !ppm.Right(p) {
			t.Errorf("Right(%d): no", p)
		}
	}
	for _, p := range nones {
		if ppm.Right(p) {
			t.Errorf("Right(%d): yes", p)
		}
	}
}

// P3.1: Print, and what it prints is read (P3.3).

func TestPrintByHand(t *testing.T) {
	for p, want := range map[uint32]string{
		0: "0%", 1: "0.0001%", 9: "0.0009%", 10: "0.001%", 11: "0.0011%", 100: "0.01%", 101: "0.0101%",
		1000: "0.1%", 1001: "0.1001%", 1010: "0.101%", 1100: "0.11%", 9999: "0.9999%",
		10000: "1%", 10001: "1.0001%", 10010: "1.001%", 10100: "1.01%", 11000: "1.1%", 10500: "1.05%", 12345: "1.2345%",
		100000: "10%", 100001: "10.0001%", 200000: "20%", 500000: "50%", 505050: "50.505%",
		900000: "90%", 990000: "99%", 999000: "99.9%", 999900: "99.99%", 999990: "99.999%", 999999: "99.9999%",
		1000000: "100%",
	} {
		if s := ppm.Print(p); s != want {
			t.Errorf("Print(%d): %q, not %q", p, s, want)
		}
		wantRead(t, want, p, api.Fine)
	}
}

func TestPrintOfNone(t *testing.T) {
	for _, p := range nones {
		if s := ppm.Print(p); s != "?" {
			t.Errorf("Print(%d): %q", p, s)
		}
	}
	wantRead(t, "?", 0, api.Word)
}

func TestPrintAndReadOfAll(t *testing.T) {
	for p := range uint32(million + 1) {
		want := printed(p)
		if s := ppm.Print(p); s != want {
			t.Fatalf("Print(%d): %q, not %q", p, s, want)
		}
		if q, c := ppm.Read(want); q != p || c != api.Fine {
			t.Fatalf("Read(%q): %d, %d", want, q, c)
		}
	}
}

// P3.1: Read of what isn't a print.

func TestReadWord(t *testing.T) {
	for _, s := range []string{
		"", "%", "%%", ".", ".%", "..%", "?", "?%",
		// no %, more than one, or one in another place
		"5", "0", "100", "5.5", "101", "99999999999999999999999999999999999999999", "5%%", "%5%", "5%5%", "%5", "5.%5%", "5%.5", "5%.5%", "50%0", "5% ", "5%\x00", "5%\n",
		// noughts ahead
		"00%", "000%", "01%", "05%", "05.5%", "00.5%", "0100%", "0101%", "00000000000000000000000000000000000000000000000001%",
		// noughts at the end, behind the point
		"0.0%", "5.0%", "5.10%", "5.00%", "0.0000%", "5.0000%", "5.1000%", "100.0%", "101.0%", "101.10%",
		// no digits ahead of the point, or behind it
		".5%", "5.%", ".%", "0.%", "100.%", "101.%",
		// too many digits behind the point, or too many points
		"5.12345%", "5.00001%", "5.00000%", "5.123456%", "0.00001%", "100.00001%", "1000.00001%", "5.1.2%", "5..2%", "5.12.%", ".5.%",
		"5." + strings.Repeat("1", 50) + "%",
		// signs
		"-5%", "+5%", "-0%", "+0%", "5-%", "5.-5%", "5.+5%", "-101%", "+101%", "--5%", "5.5-%",
		// spaces
		" 5%", "5 %", " 5 %", "5. 5%", "5 .5%", "5.5 %", "\t5%", "5\n%", " %", "\u00a05%",
		// letters, other signs and other digits
		"a%", "5a%", "a5%", "5.a%", "5.5a%", "1e2%", "0x5%", "5,5%", "1_0%", "5/5%", "5:%", "5.:%", "5./%", "/%", ":%", "٥%", "5.٥%", "５%", "5.５%", "5％", "½%",
		// bytes that are no rune's
		"\xff", "\xff%", "5\xff%", "5.\xff%", "5.5\xff%", "\xc0\xb5%", "5.\xc0\xb5%", "5%\xff", "\x80.5%", "5\xe2\x82%", "\x00%", "5.\x00%",
		// too great to be held, but not so written either
		strings.Repeat("9", 60), strings.Repeat("9", 60) + "a%", strings.Repeat("9", 60) + ".%", strings.Repeat("9", 60) + ".0%", strings.Repeat("9", 60) + ".12345%", "0" + strings.Repeat("9", 60) + "%", "-" + strings.Repeat("9", 60) + "%", strings.Repeat("9", 60) + "%%", strings.Repeat("9", 60) + " %", strings.Repeat("9", 60) + ".5.5%",
	} {
		wantRead(t, s, 0, api.Word)
	}
}

func TestReadRange(t *testing.T) {
	for _, s := range []string{
		"100.0001%", "100.001%", "100.1%", "100.9999%", "101%", "101.5%", "110%", "200%", "999%", "1000%", "1000.0001%", "99999999999%",
		// what comes back to a share, where it goes round in 32 or in 64 bits
		"429496.7296%", "429496.7297%", "429516%", "1844674407370955.1616%", "1844674407370955.1617%",
		"18446744073709551615%", "18446744073709551616%", "18446744073709551617%", "18446744073709551617.5%",
		"340282366920938463463374607431768211455%", "340282366920938463463374607431768211456%", "340282366920938463463374607431768211457%",
		"340282366920938463463374607431768211456.5%",
		strings.Repeat("9", 60) + "%", strings.Repeat("9", 60) + ".9999%", "1" + strings.Repeat("0", 5000) + "%", strings.Repeat("9", 100000) + "%",
	} {
		wantRead(t, s, 0, api.Range)
	}
	wantRead(t, "100%", million, api.Fine)
	wantRead(t, "99.9999%", million-1, api.Fine)
}

// Of all short texts of these bytes just those are read that are prints, or would be prints above 100%.
func TestReadAllShortTexts(t *testing.T) {
	prints := map[string]uint32{}
	for p := range uint32(million + 1) {
		prints[printed(p)] = p
	}
	letters := "0159.%- \xff"
	texts := []string{""}
	for range 6 {
		var more []string
		for _, s := range texts {
			for i := range len(letters) {
				more = append(more, s+letters[i:i+1])
			}
		}
		for _, s := range more {
			want, ok := prints[s]
			q, c := ppm.Read(s)
			if ok && (q != want || c != api.Fine) || !ok && (q != 0 || c != refused(s)) {
				t.Fatalf("Read(%q): %d, %d", s, q, c)
			}
		}
		texts = more
	}
}

// refused is the code of a text that is no share's print.
func refused(s string) api.Code {
	body, ok := strings.CutSuffix(s, "%")
	ahead, behind, pointed := strings.Cut(body, ".")
	ok = ok && digitsOnly(ahead) && (ahead == "0" || ahead[0] != '0')
	if pointed {
		ok = ok && digitsOnly(behind) && len(behind) <= 4 && !strings.HasSuffix(behind, "0")
	}
	if ok {
		return api.Range
	}
	return api.Word
}

func digitsOnly(s string) bool {
	return s != "" && strings.Trim(s, "0123456789") == ""
}

func TestReadAnyBytes(t *testing.T) {
	r := rand.New(rand.NewSource(3))
	for range 20000 {
		b := make([]byte, r.Intn(9))
		r.Read(b)
		q, c := ppm.Read(string(b))
		if c != api.Fine && q != 0 || c == api.Fine && ppm.Print(q) != string(b) {
			t.Fatalf("Read(%q): %d, %d", b, q, c)
		}
	}
}

// P3.1: Rest.

func TestRest(t *testing.T) {
	for p, want := range map[uint32]uint32{0: million, 1: 999999, 12345: 987655, 500000: 500000, 999000: 1000, 999999: 1, million: 0} {
		if r := ppm.Rest(p); r != want {
			t.Errorf("Rest(%d): %d, not %d", p, r, want)
		}
	}
	for _, p := range nones {
		if r := ppm.Rest(p); r != 0 {
			t.Errorf("Rest(%d): %d", p, r)
		}
	}
}

// P3.2: Part.

func TestPart(t *testing.T) {
	for _, n := range numbers {
		for _, p := range shares {
			w, c := ppm.Part(n, p)
			want := new(big.Int).Mul(number(n), number(uint64(p)))
			if c != api.Fine || wide(w).Cmp(want) != 0 {
				t.Errorf("Part(%d, %d): %v, %d", n, p, w, c)
			}
		}
	}
}

func TestPartByHand(t *testing.T) {
	if w, c := ppm.Part(3, 999000); w != (api.Wide{Lo: 2997000}) || c != api.Fine {
		t.Error(w, c)
	}
	if w, c := ppm.Part(top, million); w != (api.Wide{Hi: 999999, Lo: top - 999999}) || c != api.Fine {
		t.Error(w, c)
	}
	if w, c := ppm.Part(top, 1); w != (api.Wide{Lo: top}) || c != api.Fine {
		t.Error(w, c)
	}
	if w, c := ppm.Part(top, 0); w != (api.Wide{}) || c != api.Fine {
		t.Error(w, c)
	}
	if w, c := ppm.Part(1<<63, 2); w != (api.Wide{Hi: 1}) || c != api.Fine {
		t.Error(w, c)
	}
}

// P3.2: Part and Cut of what is none.

func TestPartAndCutOfNone(t *testing.T) {
	for _, p := range nones {
		for _, n := range numbers {
			if w, c := ppm.Part(n, p); w != (api.Wide{}) || c != api.Range {
				t.Errorf("Part(%d, %d): %v, %d", n, p, w, c)
			}
			if q, left, c := ppm.Cut(n, p); q != 0 || left != 0 || c != api.Range {
				t.Errorf("Cut(%d, %d): %d, %d, %d", n, p, q, left, c)
			}
		}
	}
}

// P3.2: Cut.

func TestCut(t *testing.T) {
	for _, n := range numbers {
		for _, p := range shares {
			q, left, c := ppm.Cut(n, p)
			parts := new(big.Int).Mul(number(n), number(uint64(p)))
			whole, rest := parts.QuoRem(parts, number(million), new(big.Int))
			if c != api.Fine || number(q).Cmp(whole) != 0 || number(left).Cmp(rest) != 0 {
				t.Errorf("Cut(%d, %d): %d, %d, %d, not %v, %v", n, p, q, left, c, whole, rest)
			}
		}
	}
}

func TestCutByHand(t *testing.T) {
	for _, row := range []struct {
		n    uint64
		p    uint32
		q    uint64
		left uint64
	}{
		{0, 0, 0, 0}, {0, million, 0, 0}, {5, 0, 0, 0}, {5, million, 5, 0}, {1, 1, 0, 1}, {1, 999999, 0, 999999},
		{1234, 1000, 1, 234000}, {1000, 1000, 1, 0}, {999, 1000, 0, 999000}, {1001, 1000, 1, 1000},
		{1000000, 1, 1, 0}, {999999, 1, 0, 999999}, {1000001, 1, 1, 1}, {2, 500000, 1, 0}, {3, 500000, 1, 500000},
		{top, million, top, 0}, {top, 0, 0, 0}, {top, 500000, top / 2, 500000}, {top, 1, 18446744073709, 551615}, {top, 999999, top - 18446744073710, 448385},
	} {
		if q, left, c := ppm.Cut(row.n, row.p); q != row.q || left != row.left || c != api.Fine {
			t.Errorf("Cut(%d, %d): %d, %d, %d", row.n, row.p, q, left, c)
		}
	}
}

// P3.2: Share.

func TestShareByHand(t *testing.T) {
	for _, row := range []struct {
		part, all uint64
		want      uint32
	}{
		{0, 1, 0}, {1, 1, million}, {0, top, 0}, {top, top, million}, {1, 2, 500000}, {1, 3, 333333}, {2, 3, 666666}, {1, 7, 142857},
		{1, million, 1}, {1, million + 1, 0}, {million - 1, million, 999999}, {million, million + 1, 999999}, {1, 2 * million, 0}, {2, 2 * million, 1}, {1, 999999, 1},
		{top - 1, top, 999999}, {1, top, 0}, {top / 2, top, 499999}, {1 << 63, top, 500000}, {1<<63 - 1, 1 << 63, 999999}, {top / million, top, 0}, {top/million + 1, top, 1},
		{1 << 44, 1 << 45, 500000}, {999, 1000, 999000},
	} {
		if s, c := ppm.Share(row.part, row.all); s != row.want || c != api.Fine {
			t.Errorf("Share(%d, %d): %d, %d, not %d", row.part, row.all, s, c, row.want)
		}
	}
}

func TestShare(t *testing.T) {
	for _, part := range numbers {
		for _, all := range numbers {
			s, c := ppm.Share(part, all)
			want, code := share(part, all)
			if s != want || c != code {
				t.Errorf("Share(%d, %d): %d, %d, not %d, %d", part, all, s, c, want, code)
			}
		}
	}
}

// share is what big numbers say of Share. Zero is looked for ahead of Counts.
func share(part, all uint64) (uint32, api.Code) {
	if all == 0 {
		return 0, api.Zero
	}
	if part > all {
		return 0, api.Counts
	}
	parts := new(big.Int).Mul(number(part), number(million))
	return uint32(parts.Quo(parts, number(all)).Uint64()), api.Fine
}

func TestShareRefuses(t *testing.T) {
	for _, part := range []uint64{0, 1, million, top} {
		if s, c := ppm.Share(part, 0); s != 0 || c != api.Zero {
			t.Errorf("Share(%d, 0): %d, %d", part, s, c)
		}
	}
	for _, row := range [][2]uint64{{2, 1}, {million + 1, million}, {top, top - 1}, {top, 1}, {1 << 63, 1<<63 - 1}} {
		if s, c := ppm.Share(row[0], row[1]); s != 0 || c != api.Counts {
			t.Errorf("Share(%d, %d): %d, %d", row[0], row[1], s, c)
		}
	}
}

// P3.3: a part and the part of the rest are all.
func TestPartsAreAll(t *testing.T) {
	for _, n := range numbers {
		for _, p := range shares {
			a, c := ppm.Part(n, p)
			b, d := ppm.Part(n, ppm.Rest(p))
			sum, e := exact.Add(a, b)
			if c != api.Fine || d != api.Fine || e != api.Fine || sum != exact.Times(n, million) {
				t.Errorf("%d of %d and its rest: %v, %d, %d, %d", p, n, sum, c, d, e)
			}
		}
	}
}

// P3.3: a share of a cut isn't above the share.
func TestShareOfCut(t *testing.T) {
	r := rand.New(rand.NewSource(33))
	for range 20000 {
		n, p := r.Uint64()>>r.Intn(64), uint32(r.Intn(million+1))
		if n == 0 {
			continue
		}
		q, left, c := ppm.Cut(n, p)
		s, d := ppm.Share(q, n)
		if c != api.Fine || d != api.Fine || s > p || left >= million || left == 0 && s != p {
			t.Fatalf("%d of %d: cut %d, %d, %d, and its share %d, %d", p, n, q, left, c, s, d)
		}
	}
}
