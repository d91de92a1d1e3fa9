package wire_test

import (
	"bytes"
	"fmt"
	"math"
	"math/big"
	"math/rand"
	"strings"
	"testing"

	"firebell/api"
	"firebell/wire"
)

// kind is what a thing is, or is asked for as.
type kind int

const (
	num kind = iota
	whole
	text
	flag
	count
)

var kinds = []kind{num, whole, text, flag, count}

// thing is a value of one kind: all else is zero.
type thing struct {
	num   uint64
	whole int64
	text  string
	flag  bool
	count int
}

// number is what the chapter says of a size's bytes, by big numbers.
func number(mark byte, size *big.Int) string {
	b := size.Bytes()
	return string(append([]byte{mark + byte(len(b))}, b...))
}

// written is what the chapter says of a thing's bytes.
func written(k kind, x thing) string {
	switch k {
	case num:
		return number(0, new(big.Int).SetUint64(x.num))
	case whole:
		n := big.NewInt(x.whole)
		if n.Sign() < 0 {
			return number(16, n.Abs(n))
		}
		return number(0, n)
	case text:
		return number(0, big.NewInt(int64(len(x.text)))) + x.text
	case flag:
		return map[bool]string{true: "\x01", false: "\x00"}[x.flag]
	}
	return number(0, big.NewInt(int64(x.count)))
}

// put writes a thing by the program.
func put(b []byte, k kind, x thing) []byte {
	switch k {
	case num:
		return wire.Num(b, x.num)
	case whole:
		return wire.Int(b, x.whole)
	case text:
		return wire.Text(b, x.text)
	case flag:
		return wire.Flag(b, x.flag)
	}
	return wire.Num(b, uint64(x.count))
}

// ask takes a thing from a reader.
func ask(r *wire.Reader, k kind, most int) thing {
	switch k {
	case num:
		return thing{num: r.Num()}
	case whole:
		return thing{whole: r.Int()}
	case text:
		return thing{text: r.Text(most)}
	case flag:
		return thing{flag: r.Flag()}
	}
	return thing{count: r.Count(most)}
}

// stands is what the chapter says of what stands at the front: a thing, and how many bytes it has, 0 if it isn't there.
func stands(s string, k kind, most int) (thing, int) {
	if k == flag {
		if s == "" || s[0] != 0 && s[0] != 1 {
			return thing{}, 0
		}
		return thing{flag: s[0] == 1}, 1
	}
	n, size := stood(s, k == whole)
	if size == 0 {
		return thing{}, 0
	}
	switch k {
	case num:
		if n.IsUint64() {
			return thing{num: n.Uint64()}, size
		}
	case whole:
		if n.IsInt64() {
			return thing{whole: n.Int64()}, size
		}
	case count:
		if n.Cmp(big.NewInt(int64(most))) <= 0 {
			return thing{count: int(n.Int64())}, size
		}
	case text:
		if n.Cmp(big.NewInt(int64(most))) <= 0 && n.Cmp(big.NewInt(int64(len(s)-size))) <= 0 {
			end := size + int(n.Int64())
			return thing{text: s[size:end]}, end
		}
	}
	return thing{}, 0
}

// stood is the number at the front: what comes of its bytes has to be written just so.
func stood(s string, signed bool) (*big.Int, int) {
	if s == "" {
		return nil, 0
	}
	for _, mark := range []byte{0, 16} {
		length := int(s[0]) - int(mark)
		if length < 0 || length > 8 || len(s) < 1+length || mark > 0 && !signed {
			continue
		}
		n := new(big.Int).SetBytes([]byte(s[1 : 1+length]))
		if number(mark, n) != s[:1+length] || mark > 0 && n.Sign() == 0 {
			return nil, 0
		}
		if mark > 0 {
			n.Neg(n)
		}
		return n, 1 + length
	}
	return nil, 0
}

// shown is bytes in a test's words, cut off where they are many.
func shown(s string) string {
	if len(s) > 60 {
		return fmt.Sprintf("%x.. of %d bytes", s[:60], len(s))
	}
	return fmt.Sprintf("%x", s)
}

// standing is what a reader tells of itself.
type standing struct {
	bad  bool
	left int
	end  api.Code
}

var dead = standing{bad: true, end: api.Torn}

func stand(r *wire.Reader) standing {
	return standing{r.Bad(), r.Left(), r.End()}
}

// checkLeft: so many bytes are left of a reader that isn't bad, and asking for that changes nothing.
func checkLeft(t *testing.T, r *wire.Reader, left int, what string) {
	want := standing{left: left, end: api.Torn}
	if left == 0 {
		want.end = api.Fine
	}
	if got, again := stand(r), stand(r); got != want || again != want {
		t.Helper()
		t.Fatalf("%s: %+v, then %+v, not %+v", what, got, again, want)
	}
}

// checkDead asks a bad reader for each thing.
func checkDead(t *testing.T, r *wire.Reader, what string) {
	got := stand(r)
	for _, k := range kinds {
		for _, most := range []int{-1, 0, math.MaxInt} {
			if x := ask(r, k, most); got != dead || x != (thing{}) {
				t.Helper()
				t.Fatalf("%s: a bad reader is %+v, and tells %+v of kind %d", what, got, x, k)
			}
			got = stand(r)
		}
	}
	if got != dead {
		t.Helper()
		t.Fatalf("%s: a bad reader is %+v at last", what, got)
	}
}

// check reads one thing of bytes, and holds it against the chapter: was it there?
func check(t *testing.T, s string, k kind, most int) bool {
	t.Helper()
	r := wire.New([]byte(s))
	checkLeft(t, r, len(s), "ahead")
	want, size := stands(s, k, most)
	if x := ask(r, k, most); x != want {
		t.Fatalf("kind %d, most %d, of %s: %+v, not %+v", k, most, shown(s), x, want)
	}
	if size == 0 {
		checkDead(t, r, "behind what is wrong")
		return false
	}
	checkLeft(t, r, len(s)-size, "behind what is there")
	// What is read was written just so (P7.3).
	if b := put(nil, k, want); string(b) != s[:size] {
		t.Fatalf("kind %d, most %d, of %s: written again %s", k, most, shown(s), shown(string(b)))
	}
	return true
}

// mosts are those beside a number.
func mosts(n int) []int {
	return []int{n - 1, n, n + 1, -1, 0, 1, math.MinInt, math.MaxInt, math.MaxInt32, math.MinInt32}
}

// fronts are what may stand ahead, with room behind it and without.
func fronts() [][]byte {
	return [][]byte{nil, {}, []byte("a"), []byte("\x00"), []byte("\x08\xff"), make([]byte, 0, 40), make([]byte, 3, 500), bytes.Repeat([]byte{0xff}, 1000)}
}

// checkPut writes a thing behind fronts: those stay, and nothing is shared with them.
func checkPut(t *testing.T, k kind, x thing, want string) {
	t.Helper()
	for _, b := range fronts() {
		room := b[len(b):cap(b)]
		for i := range room {
			room[i] = 0xaa
		}
		ahead := string(b)
		got := put(b, k, x)
		if string(got) != ahead+want {
			t.Fatalf("kind %d, %+v, behind %s: %s, not %s", k, x, shown(ahead), shown(string(got)), shown(ahead+want))
		}
		for i := range got {
			got[i] ^= 0x55
		}
		got = append(got, 1, 2, 3)
		if string(b) != ahead || bytes.Count(room, []byte{0xaa}) != len(room) {
			t.Fatalf("kind %d, %+v, behind %s: what was handed in is another", k, x, shown(ahead))
		}
		if again := put(b, k, x); string(again) != ahead+want || len(got) != len(again)+3 {
			t.Fatalf("kind %d, %+v, behind %s, again: %s", k, x, shown(ahead), shown(string(again)))
		}
	}
}

// checkBoth writes a thing, and reads it, with nothing and with more behind it.
func checkBoth(t *testing.T, k kind, x thing, want string) {
	t.Helper()
	checkPut(t, k, x, want)
	for _, more := range []string{"", "\x00", "\xff", "\x01\x01", strings.Repeat("\x00", 300)} {
		r := wire.New([]byte(want + more))
		if y := ask(r, k, math.MaxInt); y != x {
			t.Fatalf("kind %d of %s: %+v, not %+v", k, shown(want+more), y, x)
		}
		checkLeft(t, r, len(more), shown(want+more))
	}
}

// P7.1 and P7.2: numbers from 0 on.

var numbers = map[uint64]string{
	0: "\x00", 1: "\x01\x01", 2: "\x01\x02", 127: "\x01\x7f", 128: "\x01\x80", 255: "\x01\xff", 256: "\x02\x01\x00", 257: "\x02\x01\x01", 300: "\x02\x01\x2c",
	65280: "\x02\xff\x00", 65535: "\x02\xff\xff", 65536: "\x03\x01\x00\x00", 65537: "\x03\x01\x00\x01",
	1<<24 - 1: "\x03\xff\xff\xff", 1 << 24: "\x04\x01\x00\x00\x00", 1<<24 + 1: "\x04\x01\x00\x00\x01",
	1<<31 - 1: "\x04\x7f\xff\xff\xff", 1 << 31: "\x04\x80\x00\x00\x00",
	1<<32 - 1: "\x04\xff\xff\xff\xff", 1 << 32: "\x05\x01\x00\x00\x00\x00", 1<<32 + 1: "\x05\x01\x00\x00\x00\x01",
	1<<40 - 1: "\x05\xff\xff\xff\xff\xff", 1 << 40: "\x06\x01\x00\x00\x00\x00\x00",
	1<<48 - 1: "\x06\xff\xff\xff\xff\xff\xff", 1 << 48: "\x07\x01\x00\x00\x00\x00\x00\x00",
	1<<56 - 1: "\x07\xff\xff\xff\xff\xff\xff\xff", 1 << 56: "\x08\x01\x00\x00\x00\x00\x00\x00\x00",
	0x0102030405060708: "\x08\x01\x02\x03\x04\x05\x06\x07\x08", 0x8070605040302010: "\x08\x80\x70\x60\x50\x40\x30\x20\x10",
	1<<63 - 1: "\x08\x7f\xff\xff\xff\xff\xff\xff\xff", 1 << 63: "\x08\x80\x00\x00\x00\x00\x00\x00\x00", 1<<63 + 1: "\x08\x80\x00\x00\x00\x00\x00\x00\x01",
	math.MaxUint64 - 1: "\x08\xff\xff\xff\xff\xff\xff\xff\xfe", math.MaxUint64: "\x08\xff\xff\xff\xff\xff\xff\xff\xff",
}

func TestNumByHand(t *testing.T) {
	for n, want := range numbers {
		checkBoth(t, num, thing{num: n}, want)
	}
}

// P7.1 and P7.2: whole numbers; those of numbers are the same, as far as 63 bits hold them.

func TestIntByHand(t *testing.T) {
	for n, want := range numbers {
		if n <= math.MaxInt64 {
			checkBoth(t, whole, thing{whole: int64(n)}, want)
		}
		if n > 0 && n <= math.MaxInt64 {
			checkBoth(t, whole, thing{whole: -int64(n)}, string(want[0]+16)+want[1:])
		}
	}
	for n, want := range map[int64]string{
		-1: "\x11\x01", -255: "\x11\xff", -256: "\x12\x01\x00", -300: "\x12\x01\x2c", -65535: "\x12\xff\xff", -65536: "\x13\x01\x00\x00",
		math.MinInt64 + 1: "\x18\x7f\xff\xff\xff\xff\xff\xff\xff", math.MinInt64: "\x18\x80\x00\x00\x00\x00\x00\x00\x00",
	} {
		checkBoth(t, whole, thing{whole: n}, want)
	}
}

// P7.1 and P7.2: numbers beside each power of two, and any.

func TestNumbersBesidePowers(t *testing.T) {
	r := rand.New(rand.NewSource(71))
	var l []uint64
	for shift := range 64 {
		for beside := range 5 {
			l = append(l, uint64(1)<<shift+uint64(beside)-2)
		}
		for range 20 {
			l = append(l, r.Uint64()>>shift, r.Uint64()>>shift<<r.Intn(64))
		}
	}
	for _, n := range l {
		for _, x := range []thing{{num: n}, {whole: int64(n)}, {whole: -int64(n)}} {
			k := num
			if x.num == 0 {
				k = whole
			}
			want := written(k, x)
			checkPut(t, k, x, want)
			for _, other := range kinds {
				for _, most := range mosts(int(n)) {
					check(t, want, other, most)
					check(t, want+"\x00\x01", other, most)
				}
			}
		}
	}
}

// P7.1 and P7.2: texts.

func TestTextByHand(t *testing.T) {
	for s, want := range map[string]string{
		"": "\x00", "a": "\x01\x01a", "xy": "\x01\x02xy", "\x00": "\x01\x01\x00", "\x00\x00\x00": "\x01\x03\x00\x00\x00", "a\x00b": "\x01\x03a\x00b",
		"\xff": "\x01\x01\xff", "\x80\xc3": "\x01\x02\x80\xc3", "\xed\xa0\x80": "\x01\x03\xed\xa0\x80", "é": "\x01\x02\xc3\xa9", "\ufffd": "\x01\x03\xef\xbf\xbd", "😀": "\x01\x04\xf0\x9f\x98\x80", "\x01\x01": "\x01\x02\x01\x01", " a\n": "\x01\x03 a\n",
		strings.Repeat("a", 254):     "\x01\xfe" + strings.Repeat("a", 254),
		strings.Repeat("a", 255):     "\x01\xff" + strings.Repeat("a", 255),
		strings.Repeat("a", 256):     "\x02\x01\x00" + strings.Repeat("a", 256),
		strings.Repeat("\xff", 257):  "\x02\x01\x01" + strings.Repeat("\xff", 257),
		strings.Repeat("\x00", 255):  "\x01\xff" + strings.Repeat("\x00", 255),
		strings.Repeat("é", 128):     "\x02\x01\x00" + strings.Repeat("é", 128),
		strings.Repeat("b", 65535):   "\x02\xff\xff" + strings.Repeat("b", 65535),
		strings.Repeat("b", 65536):   "\x03\x01\x00\x00" + strings.Repeat("b", 65536),
		strings.Repeat("c", 1000000): "\x03\x0f\x42\x40" + strings.Repeat("c", 1000000),
	} {
		checkBoth(t, text, thing{text: s}, want)
	}
}

func TestTextOfEachByteAndLength(t *testing.T) {
	var all []byte
	for i := range 256 {
		all = append(all, byte(i))
		s := string([]byte{byte(i)})
		checkBoth(t, text, thing{text: s}, "\x01\x01"+s)
		checkBoth(t, text, thing{text: s + "z" + s}, "\x01\x03"+s+"z"+s)
	}
	for n := range 520 {
		s := strings.Repeat(string(all), 3)[n%256:][:n]
		want := written(text, thing{text: s})
		checkBoth(t, text, thing{text: s}, want)
		for _, most := range mosts(n) {
			if there := check(t, want, text, most); there != (most >= n) {
				t.Fatalf("a text of %d with most %d: %t", n, most, there)
			}
			check(t, want+"q", text, most)
			check(t, want[:len(want)-1], text, most)
		}
	}
}

// P7.1 and P7.2: flags.

func TestFlags(t *testing.T) {
	checkBoth(t, flag, thing{flag: true}, "\x01")
	checkBoth(t, flag, thing{flag: false}, "\x00")
	for i := range 256 {
		s := string([]byte{byte(i)})
		for _, more := range []string{"", "\x00", "\x01", "\xff"} {
			if there := check(t, s+more, flag, 0); there != (i < 2) {
				t.Errorf("a flag of %d: %t", i, there)
			}
		}
	}
	check(t, "", flag, 0)
}

// P7.2: Count and Text with a most below 0, 0, one less than what stands there, just that, and more.

func TestMost(t *testing.T) {
	for _, n := range []int{0, 1, 2, 254, 255, 256, 65535, 65536} {
		b := string(wire.Num(nil, uint64(n)))
		full := b + strings.Repeat("a", n)
		for _, most := range mosts(n) {
			for _, more := range []string{"", "\x00", "\xff"} {
				if check(t, b+more, count, most) != (n <= most) {
					t.Errorf("a count of %d with most %d isn't %t", n, most, n <= most)
				}
				if check(t, full+more, text, most) != (n <= most) {
					t.Errorf("a text of %d with most %d isn't %t", n, most, n <= most)
				}
			}
		}
	}
	// Numbers beyond what an int holds are greater than any most.
	for _, s := range []string{"\x08\x80\x00\x00\x00\x00\x00\x00\x00", "\x08\x80\x00\x00\x00\x00\x00\x00\x01", "\x08\xff\xff\xff\xff\xff\xff\xff\xff", "\x08\xff\xff\xff\xff\xff\xff\xff\xfe"} {
		for _, most := range mosts(2) {
			if check(t, s, count, most) || check(t, s+"ab", text, most) {
				t.Errorf("%x with most %d is there", s, most)
			}
		}
	}
	if !check(t, "\x08\x7f\xff\xff\xff\xff\xff\xff\xff", count, math.MaxInt) || check(t, "\x08\x7f\xff\xff\xff\xff\xff\xff\xff", count, math.MaxInt-1) {
		t.Error("the greatest count")
	}
	if check(t, "\x08\x7f\xff\xff\xff\xff\xff\xff\xffab", text, math.MaxInt) || check(t, "\x04\x80\x00\x00\x00ab", text, math.MaxInt) || check(t, "\x05\x01\x00\x00\x00\x00ab", text, math.MaxInt) {
		t.Error("a text of more bytes than are left is there")
	}
}

// wrongs are bytes at whose front there isn't what is asked for, by kind.
var wrongs = map[kind][]string{
	num: {
		"", "\x09123456789", "\x09", "\x0f", "\x10", "\x11\x01", "\x12\x01\x00", "\x18\x80\x00\x00\x00\x00\x00\x00\x00", "\x20", "\x21\x01", "\x40", "\x7f", "\x80", "\x81\x01", "\xff", "\xff\xff\xff\xff\xff\xff\xff\xff\xff\xff",
		"\x01", "\x02", "\x02\x01", "\x08", "\x08\x01", "\x08\xff\xff\xff\xff\xff\xff\xff", "\x03\x01\x00",
		"\x01\x00", "\x02\x00\x01", "\x02\x00\xff", "\x02\x00\x00", "\x03\x00\xff\xff", "\x08\x00\xff\xff\xff\xff\xff\xff\xff", "\x08\x00\x00\x00\x00\x00\x00\x00\x00", "\x08\x00\x00\x00\x00\x00\x00\x00\x01",
	},
	whole: {
		"", "\x09123456789", "\x09", "\x0f", "\x10", "\x10\x00", "\x10\x01", "\x19123456789", "\x19", "\x1f", "\x20", "\x20\x01", "\x21\x01", "\x30", "\x31\x01", "\x91\x01", "\x7f", "\x80", "\x90", "\xff", "\xf8\x01\x01\x01\x01\x01\x01\x01\x01",
		"\x01", "\x02\x01", "\x11", "\x12", "\x12\x01", "\x18", "\x18\x01", "\x18\x7f\xff\xff\xff\xff\xff\xff", "\x08\x7f\xff\xff\xff\xff\xff\xff",
		"\x01\x00", "\x02\x00\x01", "\x11\x00", "\x12\x00\x01", "\x12\x00\x00", "\x18\x00\xff\xff\xff\xff\xff\xff\xff", "\x18\x00\x80\x00\x00\x00\x00\x00\x00", "\x08\x00\x00\x00\x00\x00\x00\x00\x01",
		"\x08\x80\x00\x00\x00\x00\x00\x00\x00", "\x08\x80\x00\x00\x00\x00\x00\x00\x01", "\x08\xff\xff\xff\xff\xff\xff\xff\xff", "\x18\x80\x00\x00\x00\x00\x00\x00\x01", "\x18\x80\x00\x00\x00\x00\x00\x01\x00", "\x18\xff\xff\xff\xff\xff\xff\xff\xff", "\x18\xc0\x00\x00\x00\x00\x00\x00\x00",
	},
	text: {
		"", "\x01\x01", "\x01\x03ab", "\x01\xffab", "\x02\x01\x00" + strings.Repeat("a", 255), "\x01\x00", "\x01\x00a", "\x02\x00\x01a", "\x10", "\x11\x01a", "\x09", "\x01", "\x02\x01",
		"\x04\xff\xff\xff\xffa", "\x08\x7f\xff\xff\xff\xff\xff\xff\xffa", "\x08\x80\x00\x00\x00\x00\x00\x00\x01a", "\x08\xff\xff\xff\xff\xff\xff\xff\xffa", "\x08\xff\xff\xff\xff\xff\xff\xff\xfe", "\x05\x01\x00\x00\x00\x00", "\x05\x01\x00\x00\x00\x01a",
	},
	flag:  {"", "\x02", "\x03\x00", "\x10", "\x7f", "\x80", "\xfe", "\xff", "\xff\x01", "\x02\x01", "0", "1", "t"},
	count: {"", "\x01", "\x01\x00", "\x02\x00\x01", "\x10", "\x11\x01", "\x09", "\x02\x01", "\x08\x80\x00\x00\x00\x00\x00\x00\x00", "\x08\xff\xff\xff\xff\xff\xff\xff\xff"},
}

func TestWrongBytes(t *testing.T) {
	for k, l := range wrongs {
		for _, s := range l {
			if check(t, s, k, math.MaxInt) {
				t.Errorf("kind %d of %x is there", k, s)
			}
		}
	}
}

// P7.2: behind something bad nothing is told, though what is asked for stands there.

func TestBadStays(t *testing.T) {
	const good = "\x00\x01\x01\x00\x01\x02xy\x01"
	for k, l := range wrongs {
		for _, s := range l {
			// What is cut short may be right with more behind it.
			if _, size := stands(s+good, k, math.MaxInt); size == 0 {
				s += good
			}
			for ahead := range 4 {
				r := wire.New([]byte(strings.Repeat("\x01\x07", ahead) + s))
				for range ahead {
					if r.Num() != 7 {
						t.Fatal("what stands ahead")
					}
				}
				checkLeft(t, r, len(s), shown(s))
				if x := ask(r, k, math.MaxInt); x != (thing{}) {
					t.Fatalf("kind %d of %s: %+v", k, shown(s), x)
				}
				checkDead(t, r, shown(s))
			}
		}
	}
	for _, most := range []int{-1, math.MinInt} {
		for _, k := range []kind{count, text} {
			r := wire.New([]byte(good))
			if x := ask(r, k, most); x != (thing{}) {
				t.Errorf("kind %d with most %d: %+v", k, most, x)
			}
			checkDead(t, r, "a most below 0")
		}
	}
}

// P7.2: no bytes, a nil reader, and a reader's zero value.

func TestNoReader(t *testing.T) {
	checkDead(t, nil, "nil")
	var none *wire.Reader
	for _, k := range kinds {
		if x := ask(none, k, 9); x != (thing{}) {
			t.Errorf("kind %d of a nil reader: %+v", k, x)
		}
	}
	checkDead(t, none, "nil")
}

func TestNoBytes(t *testing.T) {
	for _, k := range kinds {
		for _, most := range mosts(0) {
			for i, r := range []*wire.Reader{{}, new(wire.Reader), wire.New(nil), wire.New([]byte{}), wire.New(make([]byte, 0, 9)), wire.New([]byte("\x01\x01")[:0])} {
				what := fmt.Sprintf("no bytes, way %d, kind %d, most %d", i, k, most)
				checkLeft(t, r, 0, what)
				if x := ask(r, k, most); x != (thing{}) {
					t.Errorf("%s: %+v", what, x)
				}
				checkDead(t, r, what)
			}
		}
	}
}

// P7.2: Left and End ahead of, between and behind the things.

func TestLeftAndEnd(t *testing.T) {
	r := wire.New([]byte("\x02\x01\x2c\x11\x01\x01\x02xy\x01\x00\x01\x07\x00"))
	checkLeft(t, r, 14, "ahead")
	if r.Num() != 300 {
		t.Error("300")
	}
	checkLeft(t, r, 11, "behind 300")
	if r.Int() != -1 {
		t.Error("-1")
	}
	checkLeft(t, r, 9, "behind -1")
	if r.Text(2) != "xy" {
		t.Error("xy")
	}
	checkLeft(t, r, 5, "behind xy")
	if !r.Flag() || r.Flag() {
		t.Error("flags")
	}
	checkLeft(t, r, 3, "behind two flags")
	if r.Count(7) != 7 {
		t.Error("7")
	}
	checkLeft(t, r, 1, "behind 7")
	if r.Num() != 0 {
		t.Error("0")
	}
	checkLeft(t, r, 0, "behind all")
	if r.Text(9) != "" {
		t.Error("behind the end")
	}
	checkDead(t, r, "behind the end")
}

// R4: what a reader is made of stays as it is, and may become another without the reader's seeing it.

func TestReaderOfBytesThatTurn(t *testing.T) {
	const all = "\x02\x01\x2c\x01\x02xy\x01"
	b := append(make([]byte, 0, 100), all...)
	r, other := wire.New(b), wire.New(b)
	if other.Num() != 300 || other.Text(2) != "xy" || !other.Flag() || string(b) != all {
		t.Errorf("%x", b)
	}
	for i := range b {
		b[i] = 0xff
	}
	b = append(b, 1, 1)
	checkLeft(t, r, len(all), "turned")
	if r.Num() != 300 {
		t.Error("300")
	}
	for i := range b {
		b[i] = 0
	}
	if r.Text(2) != "xy" || !r.Flag() {
		t.Error("xy")
	}
	checkLeft(t, r, 0, "behind all")
	checkLeft(t, other, 0, "behind all")
}

// R4: two answers of the same bytes, with room behind them, don't write over one another.

func TestAnswersShareNothing(t *testing.T) {
	b := append(make([]byte, 0, 100), "ab"...)
	l := [][]byte{wire.Num(b, 7), wire.Num(b, 300), wire.Int(b, -2), wire.Text(b, "xyz"), wire.Text(b, ""), wire.Flag(b, true), wire.Flag(b, false)}
	for i, want := range []string{"ab\x01\x07", "ab\x02\x01\x2c", "ab\x11\x02", "ab\x01\x03xyz", "ab\x00", "ab\x01", "ab\x00"} {
		if string(l[i]) != want {
			t.Errorf("%d: %x, not %x", i, l[i], want)
		}
	}
}

// P7.2: all of up to two bytes, and each first byte with pieces of up to nine behind it.

func TestAllShortBytes(t *testing.T) {
	l := []string{""}
	for a := range 256 {
		l = append(l, string([]byte{byte(a)}))
		for b := range 256 {
			l = append(l, string([]byte{byte(a), byte(b)}))
		}
		for _, b := range []byte{0, 1, 2, 0x7f, 0x80, 0xff} {
			for _, c := range []byte{0, 1, 0x7f, 0x80, 0xff} {
				for n := range 9 {
					l = append(l, string([]byte{byte(a), b})+strings.Repeat(string([]byte{c}), n), string([]byte{byte(a), b})+strings.Repeat("\x00", n)+string([]byte{c}))
				}
			}
		}
	}
	there := map[kind]int{}
	for _, s := range l {
		for _, k := range kinds {
			for _, most := range shortMosts(k) {
				if check(t, s, k, most) {
					there[k]++
				}
			}
		}
	}
	for _, k := range kinds {
		if there[k] < 1000 {
			t.Errorf("kind %d is there %d times only", k, there[k])
		}
	}
}

// shortMosts are those that a kind is asked for with: one is enough for what has none.
func shortMosts(k kind) []int {
	if k == text || k == count {
		return []int{-1, 0, 1, 255, math.MaxInt}
	}
	return []int{0}
}

// anyOf is a thing of a kind, of any size.
func anyOf(r *rand.Rand, k kind) thing {
	switch n := r.Uint64() >> r.Intn(64); k {
	case num:
		return thing{num: n}
	case whole:
		return thing{whole: int64(n)}
	case text:
		b := make([]byte, []int{0, 1, 2, 9, 254, 255, 256, 300}[r.Intn(8)])
		r.Read(b)
		return thing{text: string(b)}
	case flag:
		return thing{flag: n&1 == 1}
	default:
		return thing{count: int(n >> 1)}
	}
}

// P7.3: what is written is read, one behind the other.

func TestRows(t *testing.T) {
	r := rand.New(rand.NewSource(72))
	for range 3000 {
		var row []kind
		var things []thing
		var b []byte
		want := ""
		for range r.Intn(30) {
			k := kinds[r.Intn(len(kinds))]
			x := anyOf(r, k)
			row, things = append(row, k), append(things, x)
			b = put(b, k, x)
			want += written(k, x)
		}
		if string(b) != want {
			t.Fatalf("a row of %v: %x, not %x", row, b, want)
		}
		read := wire.New(b)
		for i, k := range row {
			checkLeft(t, read, len(want), "a row")
			if x := ask(read, k, math.MaxInt); x != things[i] {
				t.Fatalf("thing %d of a row of %v: %+v, not %+v", i, row, x, things[i])
			}
			want = want[len(written(k, things[i])):]
		}
		checkLeft(t, read, 0, "behind a row")
		ask(read, kinds[r.Intn(len(kinds))], 9)
		checkDead(t, read, "behind a row")
	}
}

// P7.2 and P7.3: rows of which a byte is another, is gone, or came; and what is asked for in another order.

func TestBrokenRows(t *testing.T) {
	r := rand.New(rand.NewSource(73))
	bad := 0
	for range 20000 {
		var b []byte
		var row []kind
		for range 1 + r.Intn(6) {
			k := kinds[r.Intn(len(kinds))]
			row = append(row, k)
			b = put(b, k, anyOf(r, k))
		}
		i := r.Intn(len(b))
		switch r.Intn(6) {
		case 0:
			b = b[:i]
		case 1:
			b = b[i:]
		case 2:
			b[i] = byte(r.Intn(256) >> r.Intn(9))
		case 3:
			b[i] ^= 16
		case 4:
			b = append(b[:i], b[i+1:]...)
		case 5:
			r.Shuffle(len(row), func(i, j int) { row[i], row[j] = row[j], row[i] })
		}
		if readAny(t, r, string(b), row) {
			bad++
		}
	}
	if bad < 2000 || bad > 18000 {
		t.Errorf("%d of 20000 were bad", bad)
	}
}

// readAny reads a row of kinds with any mosts, against the chapter, till it is bad: is it?
func readAny(t *testing.T, r *rand.Rand, s string, row []kind) bool {
	t.Helper()
	read := wire.New([]byte(s))
	left := s
	for _, k := range row {
		most := []int{r.Intn(300), math.MaxInt, math.MaxInt, math.MaxInt, r.Intn(9) - 1}[r.Intn(5)]
		want, size := stands(left, k, most)
		if x := ask(read, k, most); x != want {
			t.Fatalf("kind %d, most %d, of %s: %+v, not %+v", k, most, shown(left), x, want)
		}
		if size == 0 {
			checkDead(t, read, shown(left))
			return true
		}
		left = left[size:]
		checkLeft(t, read, len(left), shown(left))
	}
	return false
}

// P7.2 and P7.3: any bytes, asked for anything.

func TestAnyBytes(t *testing.T) {
	r := rand.New(rand.NewSource(74))
	for range 50000 {
		b := make([]byte, r.Intn(30))
		for i := range b {
			b[i] = byte(r.Intn(256) >> r.Intn(9))
		}
		var row []kind
		for range 12 {
			row = append(row, kinds[r.Intn(len(kinds))])
		}
		readAny(t, r, string(b), row)
	}
}

// P7.3: of the beginnings of a thing's bytes none but all of them is the thing, so none begins another one.

func TestBeginnings(t *testing.T) {
	r := rand.New(rand.NewSource(75))
	for range 2000 {
		k := kinds[r.Intn(len(kinds))]
		s := string(put(nil, k, anyOf(r, k)))
		for i := range s {
			if check(t, s[:i], k, math.MaxInt) {
				t.Fatalf("kind %d of %s is there", k, shown(s[:i]))
			}
		}
	}
}
