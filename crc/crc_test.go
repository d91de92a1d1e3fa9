package crc_test

import (
	"bytes"
	"fmt"
	"hash/crc32"
	"math"
	"math/rand"
	"slices"
	"strings"
	"testing"

	"firebell/api"
	"firebell/crc"
)

const divisor = 0x82F63B78

var library = crc32.MakeTable(crc32.Castagnoli)

// summed is what the chapter says of the sum of bytes that have that sum, with s behind, bit by bit.
func summed(sum uint32, s string) uint32 {
	register := sum ^ math.MaxUint32
	for i := range len(s) {
		register ^= uint32(s[i])
		for range 8 {
			out := register & 1
			register >>= 1
			if out == 1 {
				register ^= divisor
			}
		}
	}
	return register ^ math.MaxUint32
}

// four bytes of a number, the highest first.
func four(n uint32) string {
	return string([]byte{byte(n >> 24), byte(n >> 16), byte(n >> 8), byte(n)})
}

// frame is what the chapter says of a frame, of parts that may be wrong ones.
func frame(first byte, size, sum uint32, s string, last byte) string {
	return string([]byte{first}) + four(size) + four(sum) + s + string([]byte{last})
}

// framed is what the chapter says of the frame of bytes; the library's sums are held against the chapter's in a test of their own.
func framed(s string) string {
	return frame(0xF5, uint32(len(s)), crc32.Checksum([]byte(s), library), s, 0x5F)
}

// stands is what the chapter says of what stands at the front: the bytes in a frame, and whether it is there. It is tried with each size.
func stands(s string) (string, bool) {
	for n := 0; n+10 <= len(s); n++ {
		// The size's bytes are looked at first, since sums of each size take long.
		if s[1:5] == four(uint32(n)) && s[:n+10] == framed(s[9:9+n]) {
			return s[9 : 9+n], true
		}
	}
	return "", false
}

// ending are four bytes that, behind none, have that sum.
func ending(sum uint32) string {
	register := sum ^ math.MaxUint32
	for range 32 {
		if register>>31 == 1 {
			register = (register^divisor)<<1 | 1
		} else {
			register <<= 1
		}
	}
	register ^= math.MaxUint32
	return string([]byte{byte(register), byte(register >> 8), byte(register >> 16), byte(register >> 24)})
}

// shown is bytes in a test's words, cut off where they are many.
func shown(s string) string {
	if len(s) > 60 {
		return fmt.Sprintf("%x.. of %d bytes", s[:60], len(s))
	}
	return fmt.Sprintf("%x", s)
}

// anyText has bytes of any values, or of few ones, so that those of a frame's ends come up often.
func anyText(r *rand.Rand, n int) string {
	b := make([]byte, n)
	few := r.Intn(2) == 0
	for i := range b {
		b[i] = byte(r.Intn(256))
		if few {
			b[i] = []byte{0, 1, 0xF5, 0x5F, 0xFF}[r.Intn(5)]
		}
	}
	return string(b)
}

// texts are bytes of all lengths about which a size's bytes carry, and such as look like frames.
func texts() []string {
	r := rand.New(rand.NewSource(80))
	l := []string{"", "a", "abc", "123456789", "\x00", "\xff", "\xf5", "\x5f", "\xf5\x5f", "\x5f\xf5", ending(0), "x" + ending(math.MaxUint32)}
	for _, n := range []int{2, 3, 4, 9, 10, 11, 95, 245, 254, 255, 256, 257, 300, 511, 512, 513} {
		for _, s := range []string{"\x00", "\xff", "\x5f", "\xf5"} {
			l = append(l, strings.Repeat(s, n))
		}
		l = append(l, anyText(r, n), anyText(r, n))
	}
	return append(l, framed(""), framed("abc"), framed(framed("abc"))+framed("x"))
}

// roomy is bytes with room behind them, all of it AA.
func roomy(s string) []byte {
	b := append([]byte(s), bytes.Repeat([]byte{0xAA}, 40)...)
	return b[:len(s)]
}

// checkSame: what was handed in by roomy stands as it was, and the room behind it.
func checkSame(t *testing.T, b []byte, s string) {
	t.Helper()
	room := b[len(b) : len(s)+40]
	if string(b) != s || bytes.Count(room, []byte{0xAA}) != len(room) {
		t.Fatalf("what was handed in is %s, not %s, with %x behind", shown(string(b)), shown(s), room)
	}
}

// checkSum holds a sum against the chapter.
func checkSum(t *testing.T, sum uint32, s string) {
	t.Helper()
	b, want := roomy(s), summed(sum, s)
	if got := crc.On(sum, b); got != want {
		t.Fatalf("On(%08x, %s): %08x, not %08x", sum, shown(s), got, want)
	}
	checkSame(t, b, s)
}

// checkOf holds the sum of bytes against the chapter and the library.
func checkOf(t *testing.T, s string) {
	t.Helper()
	b, want := roomy(s), summed(0, s)
	if got := crc.Of(b); got != want || want != crc32.Checksum(b, library) {
		t.Fatalf("Of(%s): %08x, not %08x", shown(s), got, want)
	}
	checkSame(t, b, s)
}

// P8.1

func TestSumsByHand(t *testing.T) {
	up, down := make([]byte, 32), make([]byte, 32)
	for i := range up {
		up[i], down[31-i] = byte(i), byte(i)
	}
	for s, want := range map[string]uint32{
		"":                         0,
		"\x00":                     0x527D5351,
		"\xff":                     0xFF000000,
		"a":                        0xC1D04330,
		"abc":                      0x364B3FB7,
		"123456789":                0xE3069283,
		"\xff\xff\xff\xff":         0xFFFFFFFF,
		strings.Repeat("\x00", 32): 0x8A9136AA,
		strings.Repeat("\xff", 32): 0x62A8AB43,
		string(up):                 0x46DD794E,
		string(down):               0x113FDB5C,
		ending(0):                  0,
		ending(0x12345678):         0x12345678,
		ending(math.MaxUint32):     math.MaxUint32,
	} {
		if got := crc.Of([]byte(s)); got != want {
			t.Errorf("Of(%s): %08x, not %08x", shown(s), got, want)
		}
	}
	if got := crc.Of(nil); got != 0 {
		t.Errorf("Of(nil): %08x", got)
	}
}

func TestSumOfEachByte(t *testing.T) {
	seen := map[uint32]bool{}
	for i := range 256 {
		s := string([]byte{byte(i)})
		seen[crc.Of([]byte(s))] = true
		for _, more := range []string{s, s + "\x00", "\x00" + s, s + s, "\xff" + s + "a", s + "12345678"} {
			checkOf(t, more)
		}
	}
	if len(seen) != 256 {
		t.Errorf("bytes have only %d sums", len(seen))
	}
}

func TestSumOfEachLength(t *testing.T) {
	r := rand.New(rand.NewSource(81))
	for n := range 600 {
		for _, s := range []string{strings.Repeat("\x00", n), strings.Repeat("\xff", n), anyText(r, n), anyText(r, n)} {
			checkOf(t, s)
		}
	}
	for _, n := range []int{65535, 65536, 300001} {
		checkOf(t, anyText(r, n))
	}
}

func TestOnCutAtEachPlace(t *testing.T) {
	for _, s := range texts() {
		want := summed(0, s)
		for i := range len(s) + 1 {
			b := roomy(s)
			if got := crc.On(crc.Of(b[:i]), b[i:]); got != want {
				t.Fatalf("%s cut at %d: %08x, not %08x", shown(s), i, got, want)
			}
			checkSame(t, b, s)
		}
	}
}

func TestOnInMorePieces(t *testing.T) {
	r := rand.New(rand.NewSource(82))
	s := "123456789"
	for i := range len(s) + 1 {
		for j := i; j <= len(s); j++ {
			if got := crc.On(crc.On(crc.Of([]byte(s[:i])), []byte(s[i:j])), []byte(s[j:])); got != 0xE3069283 {
				t.Fatalf("cut at %d and %d: %08x", i, j, got)
			}
		}
	}
	for range 2000 {
		s := anyText(r, r.Intn(300))
		sum, left := uint32(0), s
		for left != "" {
			n := r.Intn(len(left) + 1)
			sum, left = crc.On(sum, []byte(left[:n])), left[n:]
		}
		if sum != summed(0, s) {
			t.Fatalf("%s in pieces: %08x, not %08x", shown(s), sum, summed(0, s))
		}
	}
}

func TestOnOfAnySum(t *testing.T) {
	r := rand.New(rand.NewSource(83))
	l := []uint32{0, 1, 2, 0x7FFFFFFF, 0x80000000, 0xFFFFFFFE, math.MaxUint32, divisor, ^uint32(divisor), 0xE3069283}
	for i := range 32 {
		l = append(l, 1<<i, ^uint32(1<<i))
	}
	for range 300 {
		l = append(l, r.Uint32())
	}
	for _, sum := range l {
		if got, none := crc.On(sum, nil), crc.On(sum, []byte{}); got != sum || none != sum {
			t.Fatalf("On(%08x) of no bytes: %08x, %08x", sum, got, none)
		}
		for _, s := range []string{"\x00", "\xff", "a", "\x00\x00\x00\x00", "\xff\xff\xff\xff", "123456789", anyText(r, r.Intn(40))} {
			checkSum(t, sum, s)
			// Each sum is that of some bytes, with these behind.
			if got := crc.Of([]byte(ending(sum) + s)); got != summed(sum, s) {
				t.Fatalf("Of(%x, and %s): %08x, not %08x", ending(sum), shown(s), got, summed(sum, s))
			}
		}
	}
	for i := range 256 {
		checkSum(t, r.Uint32(), string([]byte{byte(i)}))
	}
}

// P8.2: Size.

func TestSize(t *testing.T) {
	for n, want := range map[int]int{
		0: 10, 1: 11, 2: 12, 3: 13, 255: 265, 256: 266, 65536: 65546,
		1<<30 - 1: 1<<30 + 9, 1 << 30: 1<<30 + 10, 1<<30 + 1: 0, 1<<30 + 2: 0, 1<<31 - 1: 0, 1 << 31: 0, 1<<32 - 1: 0, 1 << 32: 0, 1<<32 + 1: 0, 1<<62 + 1: 0,
		-1: 0, -2: 0, -9: 0, -10: 0, -11: 0, -1 << 30: 0, -1 << 31: 0, -1 << 32: 0, -1<<32 + 1: 0,
		math.MinInt64: 0, math.MinInt64 + 1: 0, math.MaxInt64 - 10: 0, math.MaxInt64 - 1: 0, math.MaxInt64: 0,
	} {
		if got := crc.Size(n); got != want {
			t.Errorf("Size(%d): %d, not %d", n, got, want)
		}
	}
	for n := range 1000 {
		if got, want := crc.Size(n), len(crc.Frame(make([]byte, n))); got != want {
			t.Fatalf("Size(%d): %d, not %d", n, got, want)
		}
	}
}

// P8.2: Frame.

func TestFramesByHand(t *testing.T) {
	for s, want := range map[string]string{
		"":                            "\xf5\x00\x00\x00\x00\x00\x00\x00\x00\x5f",
		"\x00":                        "\xf5\x00\x00\x00\x01\x52\x7d\x53\x51\x00\x5f",
		"a":                           "\xf5\x00\x00\x00\x01\xc1\xd0\x43\x30a\x5f",
		"abc":                         "\xf5\x00\x00\x00\x03\x36\x4b\x3f\xb7abc\x5f",
		"123456789":                   "\xf5\x00\x00\x00\x09\xe3\x06\x92\x83123456789\x5f",
		"\xff\xff\xff\xff":            "\xf5\x00\x00\x00\x04\xff\xff\xff\xff\xff\xff\xff\xff\x5f",
		strings.Repeat("\x00", 32):    "\xf5\x00\x00\x00\x20\x8a\x91\x36\xaa" + strings.Repeat("\x00", 32) + "\x5f",
		strings.Repeat("a", 255):      "\xf5\x00\x00\x00\xff" + four(summed(0, strings.Repeat("a", 255))) + strings.Repeat("a", 255) + "\x5f",
		strings.Repeat("a", 256):      "\xf5\x00\x00\x01\x00" + four(summed(0, strings.Repeat("a", 256))) + strings.Repeat("a", 256) + "\x5f",
		strings.Repeat("a", 0x010203): "\xf5\x00\x01\x02\x03" + four(summed(0, strings.Repeat("a", 0x010203))) + strings.Repeat("a", 0x010203) + "\x5f",
	} {
		if got := string(crc.Frame([]byte(s))); got != want {
			t.Errorf("Frame(%s): %s, not %s", shown(s), shown(got), shown(want))
		}
	}
	if got := string(crc.Frame(nil)); got != framed("") {
		t.Errorf("Frame(nil): %x", got)
	}
}

func TestFrameSharesNothing(t *testing.T) {
	for _, s := range texts() {
		b := roomy(s)
		got, other := crc.Frame(b), crc.Frame(b)
		if string(got) != framed(s) {
			t.Fatalf("Frame(%s): %s, not %s", shown(s), shown(string(got)), shown(framed(s)))
		}
		for i := range got {
			got[i] ^= 0x55
		}
		_ = append(got, 1, 2, 3)
		checkSame(t, b, s)
		for i := range b {
			b[i] ^= 0x55
		}
		if string(other) != framed(s) {
			t.Fatalf("Frame(%s) is another, since what was handed in is", shown(s))
		}
	}
}

// The first of a size's bytes isn't 0 only from 2^24 bytes on.

func TestFrameOfManyBytes(t *testing.T) {
	for _, n := range []int{1<<24 - 1, 1 << 24, 1<<24 + 0x020304} {
		b := bytes.Repeat([]byte("firebell\x5f"), n/9+1)[:n]
		f := crc.Frame(b)
		if string(f) != framed(string(b)) {
			t.Fatalf("of %d bytes: %s", n, shown(string(f)))
		}
		if got, size, c := crc.Open(f); !bytes.Equal(got, b) || size != n+10 || c != api.Fine {
			t.Fatalf("of %d bytes: %s, %d, %d", n, shown(string(got)), size, c)
		}
		if l, size := crc.All(f); len(l) != 1 || !bytes.Equal(l[0], b) || size != n+10 {
			t.Fatalf("of %d bytes: %d frames of %d bytes", n, len(l), size)
		}
	}
}

// P8.2: Open.

// checkOpen holds Open against the chapter: is there a frame?
func checkOpen(t *testing.T, s string) bool {
	t.Helper()
	want, ok := stands(s)
	if !ok {
		checkTorn(t, s)
		return false
	}
	b := roomy(s)
	got, n, c := crc.Open(b)
	if string(got) != want || n != len(want)+10 || c != api.Fine {
		t.Fatalf("Open(%s): %s, %d, %d, not %s", shown(s), shown(string(got)), n, c, shown(want))
	}
	checkSame(t, b, s)
	return true
}

// checkTorn: there is no frame at the front.
func checkTorn(t *testing.T, s string) {
	t.Helper()
	b := roomy(s)
	if got, n, c := crc.Open(b); len(got) != 0 || n != 0 || c != api.Torn {
		t.Fatalf("Open(%s): %s, %d, %d, not Torn", shown(s), shown(string(got)), n, c)
	}
	if l, n := crc.All(b); len(l) != 0 || n != 0 {
		t.Fatalf("All(%s): %d frames of %d bytes, not none", shown(s), len(l), n)
	}
	checkSame(t, b, s)
}

// behind are bytes that may stand behind a frame.
func behind() []string {
	return []string{"", "\x00", "\x5f", "\xf5", "\xff", "a", framed(""), framed("xyz"), framed("xyz")[:9], framed("xyz")[1:], strings.Repeat("\x00", 300), strings.Repeat("\x5f", 40), strings.Repeat("\xf5", 300)}
}

// P8.3: what is framed is opened, whatever stands behind.

func TestOpenWhateverStandsBehind(t *testing.T) {
	for _, s := range texts() {
		for _, more := range behind() {
			f := append(crc.Frame([]byte(s)), more...)
			got, n, c := crc.Open(f)
			if string(got) != s || n != crc.Size(len(s)) || c != api.Fine {
				t.Fatalf("Open(%s): %s, %d, %d, not %s", shown(string(f)), shown(string(got)), n, c, shown(s))
			}
			if !checkOpen(t, string(f)) {
				t.Fatalf("no frame stands at %s", shown(string(f)))
			}
		}
	}
}

func TestOpenSharesNothing(t *testing.T) {
	for _, s := range texts() {
		b := roomy(framed(s) + "\x00a")
		got, _, _ := crc.Open(b)
		other, _, _ := crc.Open(b)
		for i := range got {
			got[i] ^= 0x55
		}
		_ = append(got, 1, 2, 3)
		checkSame(t, b, framed(s)+"\x00a")
		for i := range b {
			b[i] ^= 0x55
		}
		if string(other) != s {
			t.Fatalf("what was opened of %s is another, since what was handed in is", shown(s))
		}
	}
}

// P8.2 and P8.3: no beginning of a frame is one, filled up with bytes 0 or not.

func TestBeginnings(t *testing.T) {
	for _, n := range []int{0, 1, 2, 3, 9, 10, 20} {
		for _, s := range []string{strings.Repeat("\x00", n), strings.Repeat("\xff", n), strings.Repeat("\x5f", n), strings.Repeat("\xf5", n), "123456789abcdefghijk"[:n]} {
			f := framed(s)
			for i := range f {
				for zeros := range len(f) - i + 30 {
					checkTorn(t, f[:i]+strings.Repeat("\x00", zeros))
				}
			}
		}
	}
	for _, s := range append(texts(), strings.Repeat("\x00", 65536), strings.Repeat("a", 65536+256)) {
		f := framed(s)
		step := 1 + len(f)/1000
		for i := 0; i < len(f); i += step {
			for _, zeros := range []int{0, 1, 9, 10, len(f) - i - 1, len(f) - i, len(f) - i + 1, len(f), len(f) + 300} {
				checkTorn(t, f[:i]+strings.Repeat("\x00", max(zeros, 0)))
			}
		}
		checkTorn(t, f[:len(f)-1])
		checkTorn(t, f[:len(f)-1]+"\x00")
	}
}

// P8.2: wrong parts, one at a time, all else being right.

func TestWrongEnds(t *testing.T) {
	checkTorn(t, "")
	if got, n, c := crc.Open(nil); len(got) != 0 || n != 0 || c != api.Torn {
		t.Errorf("Open(nil): %x, %d, %d", got, n, c)
	}
	for _, s := range []string{"", "abc", "\x5f", "\xf5", strings.Repeat("\xf5", 256), strings.Repeat("\x5f", 256)} {
		size, sum := uint32(len(s)), summed(0, s)
		for i := range 256 {
			for _, more := range behind() {
				if first := byte(i); first != 0xF5 {
					checkTorn(t, frame(first, size, sum, s, 0x5F)+more)
				}
				if last := byte(i); last != 0x5F {
					checkTorn(t, frame(0xF5, size, sum, s, last)+more)
				}
			}
		}
		checkTorn(t, framed(s)[1:])
		checkTorn(t, "\x00"+framed(s))
		checkTorn(t, "a"+framed(s))
	}
}

func TestWrongSizes(t *testing.T) {
	for _, s := range texts() {
		n, sum := uint32(len(s)), crc32.Checksum([]byte(s), library)
		for _, size := range []uint32{n - 1, n + 1, n + 2, n + 9, n + 10, n + 11, n ^ 256, n ^ 65536, n ^ 1<<24, n << 8, n << 24, 1 << 30, 1<<30 + 1, 1<<31 - 11, 1<<31 - 10, 1<<31 - 1, 1 << 31, 1<<31 + n, 1<<32 - 11, 1<<32 - 10, 1<<32 - 9, 1<<32 - 2, 1<<32 - 1} {
			if size == n {
				continue
			}
			for _, more := range behind() {
				checkTorn(t, frame(0xF5, size, sum, s, 0x5F)+more)
				// Of size 0, with the sum of none, it is a frame, if 5F comes next.
				checkOpen(t, frame(0xF5, size, 0, s, 0x5F)+more)
			}
		}
		// A size's bytes the lowest first are another size, or none.
		turned := string([]byte{byte(n), byte(n >> 8), byte(n >> 16), byte(n >> 24)})
		checkOpen(t, "\xf5"+turned+four(sum)+s+"\x5f")
	}
}

// Of a size that is more than there is all else may be right, as far as it goes.

func TestSizesOfMoreThanThereIs(t *testing.T) {
	for _, s := range []string{"abc\x5f", "\x5f", "a\x5f\x5f", strings.Repeat("\x5f", 256)} {
		sum := summed(0, s)
		checkTorn(t, frame(0xF5, uint32(len(s)), sum, s[:len(s)-1], s[len(s)-1]))
		if !checkOpen(t, frame(0xF5, uint32(len(s)), sum, s[:len(s)-1], s[len(s)-1])+"\x5f") {
			t.Errorf("with a last byte it is a frame: %s", shown(s))
		}
		short := s[:len(s)-1]
		if !checkOpen(t, frame(0xF5, uint32(len(short)), summed(0, short), s, 0x5F)) {
			t.Errorf("of a size of one less it is a frame: %s", shown(s))
		}
	}
}

func TestWrongSums(t *testing.T) {
	for _, s := range texts() {
		n, sum := uint32(len(s)), crc32.Checksum([]byte(s), library)
		turned := uint32(byte(sum))<<24 | uint32(byte(sum>>8))<<16 | uint32(byte(sum>>16))<<8 | sum>>24
		l := []uint32{sum + 1, sum - 1, ^sum, turned, sum ^ divisor, sum<<16 | sum>>16, 0, math.MaxUint32, crc32.ChecksumIEEE([]byte(s)), summed(0, framed(s)[:9]), summed(0, four(n)+s), summed(math.MaxUint32, s)}
		for i := range 32 {
			l = append(l, sum^1<<i)
		}
		for _, other := range l {
			if other != sum {
				checkTorn(t, frame(0xF5, n, other, s, 0x5F))
				checkTorn(t, frame(0xF5, n, other, s, 0x5F)+framed(s))
			}
		}
	}
}

// Other bytes of the same sum are in a frame, too: it tells no more than the sum does.

func TestOtherBytesOfOneSum(t *testing.T) {
	for _, sum := range []uint32{0, 1, math.MaxUint32, 0xE3069283, 0x5F5F5F5F} {
		s := ending(sum)
		if !checkOpen(t, frame(0xF5, 4, sum, s, 0x5F)) {
			t.Errorf("%x has the sum %08x", s, sum)
		}
		checkTorn(t, frame(0xF5, 3, sum, s[:3], 0x5F))
		checkTorn(t, frame(0xF5, 4, sum+1, s, 0x5F))
	}
}

// P8.2: each byte of a frame changed to each other one, and each bit of it.

func TestEachByteChanged(t *testing.T) {
	for _, s := range texts() {
		f := framed(s)
		for i := range f {
			values := 256
			if len(f) > 25 {
				values = 8
			}
			for v := range values {
				turn := byte(v)
				if values == 8 {
					turn = 1 << v
				}
				if turn == 0 {
					continue
				}
				b := []byte(f)
				b[i] ^= turn
				checkTorn(t, string(b))
				checkTorn(t, string(b)+"\x00")
				checkTorn(t, string(b)+framed("xyz"))
			}
			if len(f) < 300 {
				checkTorn(t, f[:i]+f[i+1:])
				checkTorn(t, f[:i]+"\x00"+f[i:])
			}
		}
	}
}

// P8.2: All.

// checkAll holds All against frames one behind the other, with something behind them at whose front none stands.
func checkAll(t *testing.T, row []string, more string) {
	t.Helper()
	s := ""
	for _, x := range row {
		s += framed(x)
	}
	size := len(s)
	s += more
	b := roomy(s)
	l, n := crc.All(b)
	same := slices.EqualFunc(l, row, func(got []byte, want string) bool { return string(got) == want })
	if !same || n != size {
		t.Fatalf("All(%s): %d frames of %d bytes, not %d of %d: %x", shown(s), len(l), n, len(row), size, l)
	}
	checkSame(t, b, s)
	for i := range l {
		for j := range l[i] {
			l[i][j] ^= 0x55
		}
		_ = append(l[i], 1, 2, 3)
		for j := i + 1; j < len(l); j++ {
			if string(l[j]) != row[j] {
				t.Fatalf("All(%s): frame %d is another, since %d is", shown(s), j, i)
			}
		}
	}
	checkSame(t, b, s)
	l, _ = crc.All(b)
	for i := range b {
		b[i] ^= 0x55
	}
	for i := range l {
		if string(l[i]) != row[i] {
			t.Fatalf("All(%s): frame %d is another, since what was handed in is", shown(s), i)
		}
	}
}

// noFrames stand at the front of these.
func noFrames() []string {
	f := framed("abc")
	return []string{"", "\x00", "\xf5", "\x5f", "a", f[:1], f[:5], f[:9], f[:12], f[1:], f[:12] + "\x00", f[:9] + "abd\x5f", "\x00" + f, f[:5] + f, f[:12] + "\x5e" + f, framed("")[:9], framed("")[:9] + f, strings.Repeat("\x00", 40), strings.Repeat("\xf5", 40), strings.Repeat("\x5f", 40), "\xf5\xff\xff\xff\xff" + strings.Repeat("\x5f", 40)}
}

func TestAllByHand(t *testing.T) {
	if l, n := crc.All(nil); len(l) != 0 || n != 0 {
		t.Errorf("All(nil): %x, %d", l, n)
	}
	for _, row := range [][]string{
		{}, {""}, {"abc"}, {"", ""}, {"", "", "", "", ""}, {"abc", ""}, {"", "abc"}, {"abc", "abc"}, {"abc", "", "x", "", ""},
		{framed("abc"), "y"}, {framed("abc") + framed("")}, {"\xf5", "\x5f", "\xf5\x5f"},
		{strings.Repeat("\x00", 255), strings.Repeat("\x5f", 256), strings.Repeat("\xf5", 257), "z"},
	} {
		for _, more := range noFrames() {
			checkAll(t, row, more)
		}
	}
}

func TestAllOfRows(t *testing.T) {
	r := rand.New(rand.NewSource(84))
	for range 3000 {
		var row []string
		for range r.Intn(9) {
			row = append(row, anyText(r, r.Intn(30)))
		}
		more := noFrames()
		checkAll(t, row, more[r.Intn(len(more))])
	}
	checkAll(t, make([]string, 5000), "\x00")
	checkAll(t, texts(), framed("abc")[:12])
}

// P8.2: behind a frame that isn't right All tells none, whatever stands there.

func TestAllEndsAtWhatIsWrong(t *testing.T) {
	row := []string{"abc", "", "1234", "\x5f"}
	s, starts := "", []int{}
	for _, x := range row {
		starts = append(starts, len(s))
		s += framed(x)
	}
	for i := range s {
		b := []byte(s)
		b[i] ^= 0x10
		want := 0
		for want+1 < len(starts) && starts[want+1] <= i {
			want++
		}
		if l, n := crc.All(b); len(l) != want || n != starts[want] {
			t.Errorf("byte %d changed: %d frames of %d bytes, not %d of %d", i, len(l), n, want, starts[want])
		}
		if l, n := crc.All([]byte(s[:i])); len(l) != want || n != starts[want] {
			t.Errorf("cut at %d: %d frames of %d bytes, not %d of %d", i, len(l), n, want, starts[want])
		}
	}
}

// P8.2: any bytes that begin as frames do, or nearly so.

func TestAnyBytes(t *testing.T) {
	r := rand.New(rand.NewSource(85))
	there := 0
	for range 100000 {
		s := anyText(r, r.Intn(12))
		sum := summed(0, s)
		if r.Intn(4) == 0 {
			sum = r.Uint32() >> r.Intn(32)
		}
		size := uint32(len(s))
		if r.Intn(4) == 0 {
			size = uint32(r.Intn(12))
		}
		f := frame([]byte{0xF5, 0xF5, 0xF5, 0x5F}[r.Intn(4)], size, sum, s, []byte{0x5F, 0x5F, 0x5F, 0}[r.Intn(4)]) + anyText(r, r.Intn(12))
		if checkOpen(t, f) {
			there++
		}
		checkOpen(t, anyText(r, r.Intn(30)))
	}
	if there < 20000 || there > 80000 {
		t.Errorf("%d of 100000 are there", there)
	}
}
