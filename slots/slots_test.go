package slots_test

import (
	"bytes"
	"encoding/binary"
	"hash/crc32"
	"math"
	"math/rand"
	"slices"
	"strings"
	"testing"

	"firebell/api"
	"firebell/block"
	"firebell/slots"
)

// place is two slots of n blocks each from one on, on a disk of so many blocks of so many bytes.
type place struct{ blocks, size, from, n int }

// length of a slot.
func (p place) length() int { return p.n * p.size }

// most bytes of a snapshot.
func (p place) most() int { return p.length() - 19 }

// places: slots of one block, of some, and of half of all; at the disk's front, at its end, and between.
func places() []place {
	return []place{
		{2, 32, 0, 1}, {5, 32, 0, 1}, {5, 32, 3, 1}, {5, 32, 1, 1}, {4, 32, 0, 2}, {6, 32, 1, 2}, {6, 32, 0, 3}, {7, 32, 1, 3},
		{7, 45, 0, 3}, {5, 33, 1, 2}, {10, 100, 2, 3}, {9, 40, 0, 4}, {4, 512, 1, 1},
	}
}

// bigPlaces: those of many blocks.
func bigPlaces() []place {
	return []place{{400, 512, 0, 200}, {400, 32, 0, 200}, {400, 32, 100, 100}, {400, 512, 398, 1}, {400, 512, 2, 199}}
}

// snap is a snapshot; that of epoch 0 is none.
type snap struct {
	epoch uint64
	bytes string
}

const greatest = math.MaxUint64

// framed is the frame of some bytes, put together apart from the program.
func framed(s string) string {
	b := binary.BigEndian.AppendUint32([]byte{0xF5}, uint32(len(s)))
	b = binary.BigEndian.AppendUint32(b, crc32.Checksum([]byte(s), crc32.MakeTable(crc32.Castagnoli)))
	return string(b) + s + "\x5F"
}

// number is a number's bytes, put together apart from the program.
func number(n uint64) string {
	b := bytes.TrimLeft(binary.BigEndian.AppendUint64(nil, n), "\x00")
	return string(byte(len(b))) + string(b)
}

// frame of a snapshot; nothing of none.
func (s snap) frame() string {
	if s.epoch == 0 {
		return ""
	}
	return framed(number(s.epoch) + s.bytes)
}

// fill is so many bytes, none of them 0, that are unlike those of another seed.
func fill(seed, n int) string {
	b := make([]byte, n)
	for i := range b {
		b[i] = byte(1 + (seed*31+i*7)%255)
	}
	return string(b)
}

func zeros(n int) string { return strings.Repeat("\x00", n) }

// roomy is bytes with room behind them, all of it AA.
func roomy(s string) []byte {
	b := append([]byte(s), bytes.Repeat([]byte{0xAA}, 600)...)
	return b[:len(s)]
}

// checkSame: what was handed in by roomy stands as it was, and the room behind it.
func checkSame(t *testing.T, b []byte, s string) {
	t.Helper()
	room := b[len(b) : len(s)+600]
	if string(b) != s || bytes.Count(room, []byte{0xAA}) != len(room) {
		t.Fatalf("what was handed in is %q, not %q, with %x behind", b, s, room)
	}
}

// image is all bytes of a disk whose slots have some, with 0 behind, and all beside them has others.
func image(p place, l [2]string) string {
	all := fill(41, p.from*p.size)
	for _, s := range l {
		all += s + zeros(p.length()-len(s))
	}
	return all + fill(42, (p.blocks-p.from-2*p.n)*p.size)
}

// lay makes a disk on which all bytes last.
func lay(t *testing.T, p place, l [2]string) *block.Disk {
	t.Helper()
	all := image(p, l)
	d, c := block.New(p.blocks, p.size)
	if c != api.Fine || len(all) != p.blocks*p.size {
		t.Fatalf("%d, %d bytes for %v", c, len(all), p)
	}
	for i := range p.blocks {
		d.Write(i, []byte(all[i*p.size:(i+1)*p.size]))
	}
	if c := d.Sync(); c != api.Fine {
		t.Fatal(c)
	}
	return d
}

// seen is all bytes of a disk.
func seen(t *testing.T, d *block.Disk) string {
	t.Helper()
	var l []byte
	for i := range d.Blocks() {
		b, c := d.Read(i)
		if c != api.Fine {
			t.Fatalf("Read(%d): %d", i, c)
		}
		l = append(l, b...)
	}
	return string(l)
}

// slotsOf the bytes of a disk.
func slotsOf(p place, all string) [2]string {
	front := all[p.from*p.size:]
	return [2]string{front[:p.length()], front[p.length() : 2*p.length()]}
}

// checkBeside: the blocks beside the slots are those of an image.
func checkBeside(t *testing.T, p place, d *block.Disk) {
	t.Helper()
	all := seen(t, d)
	if all != image(p, slotsOf(p, all)) {
		t.Fatalf("%v: blocks beside the slots were written", p)
	}
}

// checkDisk: the slots have some bytes, and 0 behind, and the rest is that of an image; all of it lasts.
func checkDisk(t *testing.T, p place, d *block.Disk, l [2]string) {
	t.Helper()
	if d.Waits() != 0 {
		t.Fatalf("%v: %d writes wait", p, d.Waits())
	}
	if got, want := seen(t, d), image(p, l); got != want {
		t.Fatalf("%v: the disk has %q, not %q", p, got, want)
	}
}

// checkTold: what slots tell.
func checkTold(t *testing.T, p place, s *slots.Slots, want snap) {
	t.Helper()
	if s.Epoch() != want.epoch || string(s.Bytes()) != want.bytes || s.Most() != p.most() {
		t.Fatalf("%v: epoch %d, %q, at most %d, not %d, %q, %d", p, s.Epoch(), s.Bytes(), s.Most(), want.epoch, want.bytes, p.most())
	}
}

// open opens slots of which just this snapshot counts, without a deed.
func open(t *testing.T, p place, d *block.Disk, want snap) *slots.Slots {
	t.Helper()
	deeds, waits := d.Deeds(), d.Waits()
	s, c := slots.Open(d, p.from, p.n)
	if s == nil || c != api.Fine {
		t.Fatalf("Open of %v: %v, %d", p, s, c)
	}
	if d.Deeds() != deeds || d.Waits() != waits || d.Dark() {
		t.Fatalf("Open of %v: %d deeds, %d more writes wait, dark is %v", p, d.Deeds()-deeds, d.Waits()-waits, d.Dark())
	}
	checkTold(t, p, s, want)
	return s
}

// fresh is slots that were formatted.
func fresh(t *testing.T, p place) (*block.Disk, *slots.Slots) {
	t.Helper()
	d := lay(t, p, [2]string{fill(8, p.length()), fill(9, p.length())})
	if c := slots.Format(d, p.from, p.n); c != api.Fine {
		t.Fatalf("Format of %v: %d", p, c)
	}
	return d, open(t, p, d, snap{})
}

// crashes goes through all ways in which what waits on a disk may come to last; each time anew.
func crashes(p place, waits int, do func(keep, torn int)) {
	for keep := range waits + 1 {
		for torn := range p.size + 1 {
			if keep == waits && torn > 0 {
				break
			}
			do(keep, torn)
		}
	}
}

// The example.

func TestExample(t *testing.T) {
	p := place{2, 32, 0, 1}
	d, s := fresh(t, p)
	if s.Most() != 13 {
		t.Errorf("at most %d bytes", s.Most())
	}
	if c := s.Put(make([]byte, 14)); c != api.Full || s.Epoch() != 0 {
		t.Errorf("14 bytes: %d, epoch %d", c, s.Epoch())
	}
	if c := s.Put([]byte("thirteen ones")); c != api.Fine || s.Epoch() != 1 || string(s.Bytes()) != "thirteen ones" {
		t.Errorf("13 bytes: %d, epoch %d, %q", c, s.Epoch(), s.Bytes())
	}
	open(t, p, d, snap{1, "thirteen ones"})
}

// What stands in a slot, byte for byte.
func TestBytesOfASlot(t *testing.T) {
	d, c := block.New(2, 32)
	if c != api.Fine || slots.Format(d, 0, 1) != api.Fine {
		t.Fatal("Format")
	}
	s, _ := slots.Open(d, 0, 1)
	for range 3 {
		s.Put([]byte("abc"))
	}
	for i, epoch := range []byte{2, 3} {
		b, _ := d.Read(i)
		in := []byte{1, epoch, 'a', 'b', 'c'}
		sum := crc32.Checksum(in, crc32.MakeTable(crc32.Castagnoli))
		want := append([]byte{0xF5, 0, 0, 0, 5, byte(sum >> 24), byte(sum >> 16), byte(sum >> 8), byte(sum)}, in...)
		if want = append(want, 0x5F); !bytes.Equal(b, append(want, make([]byte, 17)...)) {
			t.Errorf("slot %d: %x", i, b)
		}
	}
}

// P11.1: Format.

// olds: what may have been in a slot of such a length.
func olds(p place, slot uint64) []string {
	return []string{
		"", fill(3, p.length()), framed(""), snap{2 + slot, "abc"}.frame(), strings.Repeat("\xFF", p.length()),
		zeros(p.length()-1) + "x", "x", snap{greatest - 1 + slot, ""}.frame() + fill(4, p.length()-19),
	}
}

func TestFormat(t *testing.T) {
	for _, p := range append(places(), bigPlaces()...) {
		for i, zero := range olds(p, 0) {
			for k, one := range olds(p, 1) {
				if p.blocks == 400 && (i+k)%7 != 0 {
					continue
				}
				d := lay(t, p, [2]string{zero, one})
				if c := slots.Format(d, p.from, p.n); c != api.Fine {
					t.Fatalf("Format of %v: %d", p, c)
				}
				checkDisk(t, p, d, [2]string{})
				d.Crash(0, 0)
				checkDisk(t, p, d, [2]string{})
				open(t, p, d, snap{})
			}
		}
	}
}

// What is seen as 0 and waits comes to last, too.
func TestFormatOfWhatWaits(t *testing.T) {
	for _, p := range places() {
		d := lay(t, p, [2]string{fill(3, p.length()), fill(4, p.length())})
		for i := range 2 * p.n {
			d.Write(p.from+i, nil)
		}
		if c := slots.Format(d, p.from, p.n); c != api.Fine {
			t.Fatalf("Format of %v: %d", p, c)
		}
		d.Crash(0, 0)
		checkDisk(t, p, d, [2]string{})
	}
}

func TestFormatOnADiskThatGoesDark(t *testing.T) {
	for _, p := range places() {
		for fuse := 0; ; fuse++ {
			c := formatDark(t, p, fuse)
			if c == api.Fine && fuse == 0 {
				t.Fatalf("Format of %v lasts without a deed", p)
			}
			if c == api.Fine {
				break
			}
		}
	}
}

// formatDark formats with a fuse, and tells the code.
func formatDark(t *testing.T, p place, fuse int) api.Code {
	t.Helper()
	had := [2]string{snap{2, "ab"}.frame(), fill(3, p.length())}
	d := lay(t, p, had)
	d.Fuse(fuse)
	c := slots.Format(d, p.from, p.n)
	if c == api.Fine {
		d.Crash(0, 0)
		checkDisk(t, p, d, [2]string{})
		return c
	}
	if c != api.Down || !d.Dark() {
		t.Fatalf("Format of %v with a fuse of %d: %d, dark is %v", p, fuse, c, d.Dark())
	}
	if c := slots.Format(d, p.from, p.n); c != api.Down {
		t.Fatalf("Format on a dark disk: %d", c)
	}
	crashes(p, d.Waits(), func(keep, torn int) {
		d := lay(t, p, had)
		d.Fuse(fuse)
		slots.Format(d, p.from, p.n)
		d.Crash(keep, torn)
		checkBeside(t, p, d)
		if c := slots.Format(d, p.from, p.n); c != api.Fine {
			t.Fatalf("Format of %v behind a crash: %d", p, c)
		}
		checkDisk(t, p, d, [2]string{})
	})
	return c
}

// P11.1: Open.

// stand is what may stand in a slot, and the snapshot that it has thereby.
type stand struct {
	bytes string
	has   snap
}

// rights: what has a snapshot in a slot; some of more bytes than Most, which a short epoch leaves room for.
func rights(p place, slot uint64) []stand {
	var l []stand
	for _, s := range []snap{
		{2, ""}, {2, "a"}, {254, "abc"}, {256, fill(1, 5)}, {1 << 32, "\x00\x00"}, {1<<56 - 2, "xy"}, {1 << 56, "\x01\x05"}, {1 << 63, framed("")[:3]},
		{greatest - 1, ""}, {greatest - 1, fill(5, p.most())}, {2, fill(6, p.length()-12)}, {4, fill(7, p.most())}, {70000, zeros(p.most() / 2)},
	} {
		s.epoch += slot
		l = append(l, stand{s.frame(), s})
	}
	if slot == 1 {
		l = append(l, stand{snap{1, "first"}.frame(), snap{1, "first"}})
	}
	behind := snap{8 + slot, "abc"}
	return append(l,
		stand{behind.frame() + fill(2, p.length()-len(behind.frame())), behind},
		stand{behind.frame() + zeros(p.length()-len(behind.frame())-1) + "x", behind},
		stand{(behind.frame() + snap{greatest - 1 + slot, ""}.frame())[:min(p.length(), 34)], behind},
	)
}

// wrongs: what has none.
func wrongs(p place, slot uint64) []string {
	whole := snap{10 + slot, "abc"}.frame()
	over := snap{10 + slot, fill(3, p.length())}.frame()
	l := []string{
		"", "x", "\xF5", fill(2, p.length()), strings.Repeat("\xFF", p.length()),
		// Frames that have no number at their front: none at all, too many bytes, too few, 0 ahead, below 0.
		framed(""), framed("\x09" + fill(1, 9)), framed("\xFF" + fill(1, 9)), framed("\x02\x01"), framed("\x08" + fill(1, 7)), framed("\x01"), framed("\x01\x00"),
		framed("\x02\x00" + string(byte(2+slot))), framed("\x11" + string(byte(2+slot))), framed("\x10"), framed("a" + number(2+slot)),
		// An epoch of 0, and the other slot's.
		framed(number(0)), framed(number(0) + "abc"), framed(number(3 - slot)), framed(number(11-slot) + "abc"), framed(number(greatest - slot)), framed(number(1<<63+1-slot) + "a"),
		// Almost a frame.
		"\x00" + whole, whole[1:], whole[:len(whole)-1], whole[:len(whole)-1] + "\x5E", whole[:8] + "x" + whole[9:], whole[:11] + "x" + whole[12:], whole[:4] + "\x06" + whole[5:],
		over[:p.length()],
	}
	return slices.DeleteFunc(l, func(s string) bool { return len(s) > p.length() })
}

// stands: all of both.
func stands(p place, slot uint64) []stand {
	l := rights(p, slot)
	for _, s := range wrongs(p, slot) {
		l = append(l, stand{s, snap{}})
	}
	return l
}

// counts: the one of the greater epoch.
func counts(a, b snap) snap {
	if a.epoch > b.epoch {
		return a
	}
	return b
}

// pairs of what stands in both slots; of big places only some.
func pairs(p place, do func(zero, one stand)) {
	for i, zero := range stands(p, 0) {
		for k, one := range stands(p, 1) {
			if p.blocks < 400 || (i*5+k)%97 == 0 {
				do(zero, one)
			}
		}
	}
}

func TestStandsAreWhatTheySay(t *testing.T) {
	for _, p := range append(places(), bigPlaces()...) {
		for slot := range uint64(2) {
			for _, s := range stands(p, slot) {
				if s.has.epoch != 0 && (s.has.epoch%2 != slot || !strings.HasPrefix(s.bytes, s.has.frame())) || len(s.bytes) > p.length() {
					t.Fatalf("%v, slot %d: epoch %d, %q", p, slot, s.has.epoch, s.bytes)
				}
			}
		}
	}
}

func TestOpen(t *testing.T) {
	for _, p := range append(places(), bigPlaces()...) {
		pairs(p, func(zero, one stand) {
			l := [2]string{zero.bytes, one.bytes}
			d := lay(t, p, l)
			// No deed is done, so a fuse that is over changes nothing.
			d.Fuse(0)
			open(t, p, d, counts(zero.has, one.has))
			open(t, p, d, counts(zero.has, one.has))
			d.Crash(0, 0)
			checkDisk(t, p, d, l)
		})
	}
}

// A frame that stands over slot 0's end has no snapshot there, though slot 1 has the rest of it.
func TestFramesOverASlotsEnd(t *testing.T) {
	for _, p := range append(places(), bigPlaces()...) {
		for _, more := range []int{1, 2, 5, p.size} {
			whole := snap{2, fill(1, p.length()-12+more)}.frame()
			if len(whole) != p.length()+more {
				t.Fatalf("%d bytes", len(whole))
			}
			d := lay(t, p, [2]string{whole[:p.length()], whole[p.length():]})
			open(t, p, d, snap{})
			d = lay(t, p, [2]string{snap{4, "abc"}.frame(), snap{5, fill(1, p.length())}.frame()[:p.length()]})
			open(t, p, d, snap{4, "abc"})
		}
	}
}

// What is seen is what is opened, though it waits.
func TestOpenOfWhatWaits(t *testing.T) {
	p := place{4, 64, 1, 1}
	d := lay(t, p, [2]string{snap{2, "abc"}.frame(), ""})
	d.Write(2, []byte(snap{3, "def"}.frame()))
	open(t, p, d, snap{3, "def"})
	d.Crash(0, 0)
	open(t, p, d, snap{2, "abc"})
}

// Each byte of a snapshot's frame that is another one: the other slot's counts.
func TestSpoiltSnapshots(t *testing.T) {
	p := place{6, 32, 1, 2}
	whole := snap{6, "abcdef"}.frame()
	for i := range whole {
		for b := range 256 {
			spoilt := whole[:i] + string([]byte{byte(b)}) + whole[i+1:]
			want := snap{5, "elder"}
			if spoilt == whole {
				want = snap{6, "abcdef"}
			}
			open(t, p, lay(t, p, [2]string{spoilt, snap{5, "elder"}.frame()}), want)
		}
	}
}

// P11.2: Put, Epoch, Bytes and Most.

// lengths of snapshots, from none to as many as may be; over the ends of blocks, too.
func lengths(p place) []int {
	l := []int{0, 1, 3, p.most() - 1, p.most()}
	for i := range p.n {
		end := (i+1)*p.size - 12
		l = append(l, end-1, end, end+1)
	}
	return slices.DeleteFunc(l, func(n int) bool { return n < 0 || n > p.most() || p.n > 100 && n > 100 && n < p.most()-500 })
}

func TestPut(t *testing.T) {
	for _, p := range append(places(), bigPlaces()...) {
		d, s := fresh(t, p)
		var l [2]string
		now := snap{}
		for round := range 2 {
			for _, n := range lengths(p) {
				now = snap{now.epoch + 1, fill(n+round, n)}
				b := roomy(now.bytes)
				if c := s.Put(b); c != api.Fine {
					t.Fatalf("%v: epoch %d of %d bytes: %d", p, now.epoch, n, c)
				}
				checkSame(t, b, now.bytes)
				checkTold(t, p, s, now)
				l[now.epoch%2] = now.frame()
				checkDisk(t, p, d, l)
				open(t, p, d, now)
			}
		}
		d.Crash(0, 0)
		checkDisk(t, p, d, l)
		open(t, p, d, now)
	}
}

// Each length behind each other one in the same slot: all bytes behind the frame are 0.
func TestPutOfEachLength(t *testing.T) {
	p := place{8, 32, 1, 3}
	for first := range p.most() + 1 {
		for next := 0; next <= p.most(); next += 1 + first%5 {
			d, s := fresh(t, p)
			s.Put([]byte(fill(1, first)))
			s.Put(nil)
			if c := s.Put([]byte(fill(2, next))); c != api.Fine {
				t.Fatalf("%d bytes behind %d: %d", next, first, c)
			}
			checkTold(t, p, s, snap{3, fill(2, next)})
			checkDisk(t, p, d, [2]string{snap{2, ""}.frame(), snap{3, fill(2, next)}.frame()})
		}
	}
}

// Whatever stood in the slots, the snapshot goes on from the one that counts, and the other slot stays as it was.
func TestPutBehindWhatStood(t *testing.T) {
	for _, p := range append(places(), bigPlaces()...) {
		pairs(p, func(zero, one stand) {
			l := [2]string{zero.bytes, one.bytes}
			now := counts(zero.has, one.has)
			d := lay(t, p, l)
			s := open(t, p, d, now)
			next := snap{now.epoch + 1, fill(len(zero.bytes)+len(one.bytes), p.most())}
			deeds := d.Deeds()
			c := s.Put([]byte(next.bytes))
			if now.epoch == greatest {
				if c != api.Over || d.Deeds() != deeds {
					t.Fatalf("%v: at the greatest epoch %d, %d deeds", p, c, d.Deeds()-deeds)
				}
				next = now
			} else {
				if c != api.Fine {
					t.Fatalf("%v: epoch %d: %d", p, next.epoch, c)
				}
				l[next.epoch%2] = next.frame()
			}
			checkTold(t, p, s, next)
			d.Crash(0, 0)
			checkDisk(t, p, d, l)
			open(t, p, d, next)
		})
	}
}

// The epoch's number has one byte more from time to time; there is room for as many bytes of a snapshot still.
func TestPutOverTheEpochsLengths(t *testing.T) {
	for _, p := range places() {
		for n := 1; n <= 8; n++ {
			// Two ahead of the greatest epoch whose number has n bytes.
			now := snap{greatest>>(64-8*n) - 2, "abc"}
			var l [2]string
			l[now.epoch%2] = now.frame()
			d := lay(t, p, l)
			s := open(t, p, d, now)
			for range 5 {
				if now.epoch == greatest {
					break
				}
				now = snap{now.epoch + 1, fill(n, p.most())}
				if c := s.Put([]byte(now.bytes)); c != api.Fine {
					t.Fatalf("epoch %d: %d", now.epoch, c)
				}
				checkTold(t, p, s, now)
				l[now.epoch%2] = now.frame()
				checkDisk(t, p, d, l)
				s = open(t, p, d, now)
			}
			if c := s.Put(nil); now.epoch == greatest && c != api.Over {
				t.Fatalf("behind the greatest epoch: %d", c)
			}
		}
	}
}

func TestPutOfNothing(t *testing.T) {
	for _, p := range places() {
		d, s := fresh(t, p)
		for n := range uint64(4) {
			b := []byte(nil)
			if n%2 == 1 {
				b = []byte{}
			}
			if c := s.Put(b); c != api.Fine {
				t.Fatalf("%v: no bytes: %d", p, c)
			}
			checkTold(t, p, s, snap{n + 1, ""})
			open(t, p, d, snap{n + 1, ""})
		}
	}
}

// A snapshot's bytes may look like anything.
func TestSnapshotsThatLookLikeOthers(t *testing.T) {
	p := place{8, 64, 1, 3}
	d, s := fresh(t, p)
	for n, b := range []string{framed(""), snap{9, "a"}.frame(), "\xF5", zeros(1), zeros(p.most()), strings.Repeat("\x5F", 40), strings.Repeat("\xFF", 90), number(8), "\x00\xF5\xF5\x00", "\xff\xc3"} {
		if c := s.Put([]byte(b)); c != api.Fine {
			t.Fatal(c)
		}
		d.Crash(0, 0)
		s = open(t, p, d, snap{uint64(n + 1), b})
	}
}

// What is refused as Full or Over changes nothing, and what fits is taken behind it.
func TestFull(t *testing.T) {
	for _, p := range append(places(), bigPlaces()...) {
		for _, now := range []snap{{}, {1, "abc"}, {6, fill(1, p.most())}, {greatest - 1, ""}, {greatest, "abc"}} {
			var l [2]string
			l[now.epoch%2] = now.frame()
			d := lay(t, p, l)
			s := open(t, p, d, now)
			deeds := d.Deeds()
			d.Fuse(0)
			for _, n := range []int{p.most() + 1, p.most() + 2, p.length() - 10, p.length(), p.length() + 1, 2 * p.length(), 1 << 20} {
				if c := s.Put(make([]byte, n)); c != api.Full {
					t.Fatalf("%v: %d bytes of at most %d: %d", p, n, p.most(), c)
				}
				checkTold(t, p, s, now)
			}
			for _, n := range lengths(p) {
				if now.epoch != greatest {
					break
				}
				if c := s.Put(make([]byte, n)); c != api.Over {
					t.Fatalf("%v: %d bytes behind the greatest epoch: %d", p, n, c)
				}
				checkTold(t, p, s, now)
			}
			if d.Deeds() != deeds || d.Dark() {
				t.Fatalf("%v: what is refused did %d deeds, dark is %v", p, d.Deeds()-deeds, d.Dark())
			}
			checkDisk(t, p, d, l)
			d.Fuse(-1)
			if now.epoch == greatest {
				continue
			}
			next := snap{now.epoch + 1, fill(2, p.most())}
			if c := s.Put([]byte(next.bytes)); c != api.Fine {
				t.Fatalf("%v: %d bytes: %d", p, p.most(), c)
			}
			open(t, p, d, next)
		}
	}
}

// Very many bytes are Full; of a fresh heap they cost nothing.
func TestFullOfVeryMany(t *testing.T) {
	p := place{3, 32, 1, 1}
	d, s := fresh(t, p)
	many := make([]byte, 1<<30+1)
	deeds := d.Deeds()
	for _, n := range []int{1<<30 - 9, 1 << 30, 1<<30 + 1} {
		if c := s.Put(many[:n]); c != api.Full || d.Deeds() != deeds {
			t.Fatalf("%d bytes: %d, %d deeds", n, c, d.Deeds()-deeds)
		}
		checkTold(t, p, s, snap{})
	}
}

// Which refusal comes first.

func TestWhichRefusalComesFirst(t *testing.T) {
	p := place{3, 32, 1, 1}
	long, short := make([]byte, 14), []byte("abc")
	for _, now := range []snap{{}, {4, "abc"}, {greatest, "xyz"}} {
		var l [2]string
		l[now.epoch%2] = now.frame()
		// Too many bytes ahead of the greatest epoch, and both ahead of a fuse that is over.
		d := lay(t, p, l)
		s := open(t, p, d, now)
		d.Fuse(0)
		if c := s.Put(long); c != api.Full || d.Dark() {
			t.Fatalf("too many bytes at a fuse that is over: %d, dark is %v", c, d.Dark())
		}
		want := api.Down
		if now.epoch == greatest {
			want = api.Over
		}
		if c := s.Put(short); c != want || d.Dark() != (want == api.Down) {
			t.Fatalf("epoch %d, a fuse that is over: %d, dark is %v", now.epoch, c, d.Dark())
		}
		// A dark disk, and slots that told Down, ahead of all that.
		for _, first := range [][]byte{long, short, nil} {
			d := lay(t, p, l)
			s := open(t, p, d, now)
			d.Fuse(0)
			d.Sync()
			for _, b := range [][]byte{first, long, short, nil} {
				if c := s.Put(b); c != api.Down {
					t.Fatalf("epoch %d, a dark disk: %d", now.epoch, c)
				}
				checkTold(t, p, s, now)
			}
			d.Crash(0, 0)
			deeds := d.Deeds()
			for _, b := range [][]byte{first, long, short, nil} {
				if c := s.Put(b); c != api.Down || d.Deeds() != deeds {
					t.Fatalf("epoch %d, slots that told Down: %d, %d deeds", now.epoch, c, d.Deeds()-deeds)
				}
				checkTold(t, p, s, now)
			}
			checkDisk(t, p, d, l)
		}
	}
}

func TestWhichRefusalOfAPlaceComesFirst(t *testing.T) {
	for _, r := range [][2]int{{0, 1}, {-1, 1}, {0, 0}, {3, 1}, {math.MinInt, math.MaxInt}} {
		if c := slots.Format(nil, r[0], r[1]); c != api.Nil {
			t.Errorf("Format(nil, %d, %d): %d", r[0], r[1], c)
		}
		if s, c := slots.Open(nil, r[0], r[1]); s != nil || c != api.Nil {
			t.Errorf("Open(nil, %d, %d): %v, %d", r[0], r[1], s, c)
		}
	}
	p := place{5, 32, 1, 2}
	d := lay(t, p, [2]string{snap{2, "abc"}.frame(), ""})
	d.Fuse(0)
	d.Sync()
	checkWrongPlaces(t, d)
	if c := slots.Format(d, 1, 2); c != api.Down {
		t.Errorf("Format on a dark disk: %d", c)
	}
	if s, c := slots.Open(d, 1, 2); s != nil || c != api.Down {
		t.Errorf("Open on a dark disk: %v, %d", s, c)
	}
}

// checkWrongPlaces: each of them is Arg, with Format and with Open.
func checkWrongPlaces(t *testing.T, d *block.Disk) {
	t.Helper()
	end := d.Blocks()
	numbers := []int{
		-1, -2, -end, 0, 1, 2, 3, end/2 - 1, end / 2, end/2 + 1, end - 2, end - 1, end, end + 1, 1 << 32, -1 << 32, 1 << 58, 1 << 61, 1 << 62, 1<<62 + 1, -1 << 62,
		math.MinInt, math.MinInt + 1, math.MinInt + end, math.MaxInt, math.MaxInt - 1, math.MaxInt - end, math.MaxInt/2 + 1,
	}
	for _, from := range numbers {
		for _, n := range numbers {
			if from >= 0 && n >= 1 && from <= end && n <= end && from+2*n <= end {
				continue
			}
			if c := slots.Format(d, from, n); c != api.Arg {
				t.Fatalf("Format(%d, %d) of %d blocks: %d", from, n, end, c)
			}
			if s, c := slots.Open(d, from, n); s != nil || c != api.Arg {
				t.Fatalf("Open(%d, %d) of %d blocks: %v, %d", from, n, end, s, c)
			}
		}
	}
}

func TestWrongPlaces(t *testing.T) {
	for _, p := range append(places(), bigPlaces()...) {
		l := [2]string{fill(3, p.length()), fill(4, p.length())}
		d := lay(t, p, l)
		deeds := d.Deeds()
		d.Fuse(0)
		checkWrongPlaces(t, d)
		if d.Deeds() != deeds || d.Dark() {
			t.Fatalf("%v: what is refused did a deed", p)
		}
		checkDisk(t, p, d, l)
	}
	for blocks := range 4 {
		d, _ := block.New(blocks, 32)
		if blocks == 0 {
			d = &block.Disk{}
		}
		checkWrongPlaces(t, d)
	}
}

// All places that are on a small disk, and no other one.
func TestAllPlaces(t *testing.T) {
	for blocks := 1; blocks <= 9; blocks++ {
		for from := -2; from <= blocks+2; from++ {
			for n := -2; n <= blocks+2; n++ {
				d, _ := block.New(blocks, 32)
				want := api.Arg
				if from >= 0 && n >= 1 && from+2*n <= blocks {
					want = api.Fine
				}
				_, c := slots.Open(d, from, n)
				if f := slots.Format(d, from, n); f != want || c != want {
					t.Fatalf("%d, %d of %d blocks: %d, %d", from, n, blocks, f, c)
				}
			}
		}
	}
}

// P11.2, P11.3: crashes while a snapshot is put.

func TestPutOnADiskThatGoesDark(t *testing.T) {
	for _, p := range places() {
		whole := fill(5, p.length())
		for _, l := range [][2]stand{
			{}, {{}, {whole, snap{}}}, {{snap{2, "ab"}.frame(), snap{2, "ab"}}, {}},
			{{snap{4, "ab"}.frame(), snap{4, "ab"}}, {snap{3, fill(1, p.most())}.frame(), snap{3, fill(1, p.most())}}},
			{{snap{4, fill(2, p.most())}.frame(), snap{4, fill(2, p.most())}}, {snap{5, ""}.frame(), snap{5, ""}}},
			{{whole, snap{}}, {snap{greatest - 2, "x"}.frame() + whole[20:], snap{greatest - 2, "x"}}},
		} {
			for _, n := range []int{0, 3, p.size - 12, p.most()} {
				if n <= p.most() {
					putDark(t, p, l, fill(3, n))
				}
			}
		}
	}
}

// putDark puts a snapshot with each fuse, and with each crash.
func putDark(t *testing.T, p place, l [2]stand, b string) {
	t.Helper()
	had := [2]string{l[0].bytes, l[1].bytes}
	now := counts(l[0].has, l[1].has)
	next := snap{now.epoch + 1, b}
	for fuse := 0; ; fuse++ {
		d := lay(t, p, had)
		s := open(t, p, d, now)
		d.Fuse(fuse)
		c := s.Put([]byte(b))
		if c == api.Fine && fuse > 0 {
			checkTold(t, p, s, next)
			d.Crash(0, 0)
			had[next.epoch%2] = next.frame()
			checkDisk(t, p, d, had)
			return
		}
		if c != api.Down || !d.Dark() {
			t.Fatalf("%v: %d with a fuse of %d, dark is %v", p, c, fuse, d.Dark())
		}
		checkTold(t, p, s, now)
		crashes(p, d.Waits(), func(keep, torn int) {
			d := lay(t, p, had)
			s := open(t, p, d, now)
			d.Fuse(fuse)
			s.Put([]byte(b))
			d.Crash(keep, torn)
			checkOnTheWay(t, p, d, had, next)
			checkGoesOn(t, p, d, now, next)
			deeds := d.Deeds()
			if c := s.Put([]byte(b)); c != api.Down || d.Deeds() != deeds {
				t.Fatalf("%v: slots that told Down: %d, %d deeds", p, c, d.Deeds()-deeds)
			}
			checkTold(t, p, s, now)
		})
	}
}

// checkOnTheWay: the slot has a beginning of 0, and what was there behind it, or a beginning of the frame, and 0 behind it; all else is as it was.
func checkOnTheWay(t *testing.T, p place, d *block.Disk, had [2]string, next snap) {
	t.Helper()
	all := seen(t, d)
	at := next.epoch % 2
	got := slotsOf(p, all)[at]
	had[at] += zeros(p.length() - len(had[at]))
	old, frame := had[at], next.frame()+zeros(p.length()-len(next.frame()))
	had[at] = got
	if all != image(p, had) {
		t.Fatalf("%v: something beside slot %d was written", p, at)
	}
	wiped := len(got) - len(strings.TrimLeft(got, "\x00"))
	put := len(strings.TrimRight(got, "\x00"))
	if got[wiped:] != old[wiped:] && got[:put] != frame[:put] {
		t.Fatalf("%v: on the way from %q to %q stands %q", p, old, frame, got)
	}
}

// checkGoesOn: there is the one ahead, or the one that was put, and one more is put behind it.
func checkGoesOn(t *testing.T, p place, d *block.Disk, now, next snap) {
	t.Helper()
	s, c := slots.Open(d, p.from, p.n)
	if c != api.Fine {
		t.Fatalf("%v: %d behind a crash", p, c)
	}
	is := snap{s.Epoch(), string(s.Bytes())}
	if is != now && is != next {
		t.Fatalf("%v: epoch %d, %q, neither %v nor %v", p, is.epoch, is.bytes, now, next)
	}
	open(t, p, d, is)
	if c := s.Put([]byte("on")); c != api.Fine {
		t.Fatalf("%v: %d behind a crash", p, c)
	}
	checkTold(t, p, s, snap{is.epoch + 1, "on"})
	checkBeside(t, p, d)
	d.Crash(0, 0)
	open(t, p, d, snap{is.epoch + 1, "on"})
	if got, want := slotsOf(p, seen(t, d))[(is.epoch+1)%2], (snap{is.epoch + 1, "on"}).frame(); got != want+zeros(p.length()-len(want)) {
		t.Fatalf("%v: %q", p, got)
	}
}

// That the slot is 0 lasts ahead of the frame's first byte: as soon as a frame's byte may be seen, nothing of what was there may come back.
func TestZeroLastsAheadOfTheFrame(t *testing.T) {
	for _, p := range places() {
		had := [2]string{snap{2, "ab"}.frame(), fill(5, p.length())}
		next := snap{3, fill(3, p.most())}
		zeroAlone, framesOnTheWay := 0, 0
		for fuse := 0; ; fuse++ {
			seenThen := func(keep, torn int) (string, api.Code) {
				d := lay(t, p, had)
				s := open(t, p, d, snap{2, "ab"})
				d.Fuse(fuse)
				c := s.Put([]byte(next.bytes))
				d.Crash(keep, torn)
				return slotsOf(p, seen(t, d))[1], c
			}
			least, c := seenThen(0, 0)
			most, _ := seenThen(math.MaxInt, math.MaxInt)
			if c == api.Fine {
				break
			}
			if least == zeros(p.length()) && most == least {
				zeroAlone++
			}
			if strings.HasPrefix(most, "\xF5") {
				framesOnTheWay++
				if least != zeros(p.length()) {
					t.Fatalf("%v: a fuse of %d leaves %q, or %q", p, fuse, least, most)
				}
			}
		}
		if zeroAlone == 0 || framesOnTheWay == 0 {
			t.Errorf("%v: %d fuses leave 0 alone, and %d a beginning of the frame", p, zeroAlone, framesOnTheWay)
		}
	}
}

// A crash whose keep and torn are wrong is one of what there is.
func TestCrashesAtTheirEnds(t *testing.T) {
	p := place{8, 40, 1, 3}
	had := [2]string{snap{2, "abc"}.frame(), snap{1, fill(1, p.most())}.frame()}
	ends := []int{-1, 0, 1, 2, 3, 39, 40, 41, 1000, math.MinInt, math.MaxInt}
	for fuse := range 8 {
		for _, keep := range ends {
			for _, torn := range ends {
				d := lay(t, p, had)
				s := open(t, p, d, snap{2, "abc"})
				next := snap{3, fill(2, 70)}
				d.Fuse(fuse)
				c := s.Put([]byte(next.bytes))
				d.Crash(keep, torn)
				if c == api.Fine {
					open(t, p, d, next)
					continue
				}
				checkOnTheWay(t, p, d, had, next)
				checkGoesOn(t, p, d, snap{2, "abc"}, next)
			}
		}
	}
}

// A crash behind a crash: each time the one ahead stays till one is whole.
func TestCrashesOneBehindTheOther(t *testing.T) {
	for _, p := range places() {
		now := snap{7, "seven"}
		d := lay(t, p, [2]string{snap{6, "six"}.frame(), now.frame()})
		for n := range 60 {
			s := open(t, p, d, now)
			d.Fuse(n % (2*p.n + 1))
			next := snap{now.epoch + 1, fill(n, n%(p.most()+1))}
			if c := s.Put([]byte(next.bytes)); c == api.Fine {
				now = next
			}
			checkTold(t, p, s, now)
			d.Crash(n%3, n*5%(p.size+1))
			if got, _ := slots.Open(d, p.from, p.n); got.Epoch() == next.epoch {
				now = next
			}
			open(t, p, d, now)
			checkBeside(t, p, d)
		}
	}
}

// Of slots that were formatted, or opened again and put to, or whose disk crashed, what only asks tells what it told; no call panics.
func TestOldSlots(t *testing.T) {
	for _, p := range places() {
		for way := range 4 {
			d, s := fresh(t, p)
			s.Put([]byte("abc"))
			switch way {
			case 0:
				slots.Format(d, p.from, p.n)
			case 1:
				other, _ := slots.Open(d, p.from, p.n)
				other.Put([]byte("another"))
			case 2:
				d.Crash(0, 0)
			case 3:
				d.Fuse(0)
				d.Sync()
				d.Crash(0, 0)
			}
			checkTold(t, p, s, snap{1, "abc"})
			s.Put(make([]byte, 5))
			s.Put(nil)
			checkBeside(t, p, d)
		}
		// Those that told Down go on to, behind all of it.
		d, s := fresh(t, p)
		s.Put([]byte("abc"))
		d.Fuse(0)
		s.Put(nil)
		for range 3 {
			d.Crash(9, 9)
			other, _ := slots.Open(d, p.from, p.n)
			other.Put([]byte("another"))
			deeds := d.Deeds()
			for _, b := range [][]byte{nil, []byte("abc"), make([]byte, p.length())} {
				if c := s.Put(b); c != api.Down || d.Deeds() != deeds {
					t.Fatalf("opened again: %d", c)
				}
			}
			slots.Format(d, p.from, p.n)
			if c := s.Put(nil); c != api.Down {
				t.Fatalf("formatted: %d", c)
			}
			checkDisk(t, p, d, [2]string{})
			checkTold(t, p, s, snap{1, "abc"})
		}
	}
}

// Two pairs on one disk are apart.
func TestSlotsBesideOneAnother(t *testing.T) {
	d, _ := block.New(9, 32)
	one, _ := slots.Open(d, 0, 2)
	other, _ := slots.Open(d, 4, 2)
	for n := range uint64(12) {
		if one.Put([]byte(fill(int(n), 40))) != api.Fine || n%3 == 0 && other.Put([]byte(fill(int(n), 30))) != api.Fine {
			t.Fatal(n)
		}
	}
	d.Crash(0, 0)
	open(t, place{9, 32, 0, 2}, d, snap{12, fill(11, 40)})
	open(t, place{9, 32, 4, 2}, d, snap{4, fill(9, 30)})
	slots.Format(d, 0, 2)
	open(t, place{9, 32, 4, 2}, d, snap{4, fill(9, 30)})
}

// R4: nothing is shared.

func TestWhatIsHandedInIsNotLookedAtLater(t *testing.T) {
	p := place{6, 64, 1, 2}
	d, s := fresh(t, p)
	for n := range 6 {
		now := snap{uint64(n + 1), fill(n, n*20)}
		b := roomy(now.bytes)
		if c := s.Put(b); c != api.Fine {
			t.Fatal(c)
		}
		checkSame(t, b, now.bytes)
		for i := range b[:cap(b)] {
			b[:cap(b)][i] ^= 0x55
		}
		checkTold(t, p, s, now)
		open(t, p, d, now)
	}
}

func TestWhatIsHandedOutSharesNothing(t *testing.T) {
	p := place{6, 64, 1, 2}
	now := snap{4, fill(1, 80)}
	d := lay(t, p, [2]string{now.frame(), ""})
	s := open(t, p, d, now)
	for range 2 {
		b, other := s.Bytes(), s.Bytes()
		for i := range b {
			b[i] ^= 0x55
		}
		_ = append(b, "spoilt"...)
		if string(other) != now.bytes {
			t.Fatalf("another answer is %q", other)
		}
		checkTold(t, p, s, now)
		open(t, p, d, now)
		now = snap{now.epoch + 1, fill(2, 50)}
		if c := s.Put([]byte(now.bytes)); c != api.Fine || string(other) != fill(1, 80) && string(other) != fill(2, 50) {
			t.Fatalf("%d, what was handed out is %q", c, other)
		}
	}
	held := s.Bytes()
	s.Put([]byte("more"))
	slots.Format(d, p.from, p.n)
	if string(held) != now.bytes {
		t.Errorf("what was handed out is %q", held)
	}
}

// All of it: whatever is done, in any order, the snapshot is the last one that was put, or the one that was under way.
func TestAnyDeeds(t *testing.T) {
	r := rand.New(rand.NewSource(111))
	for range 600 {
		size := 32 + r.Intn(20)
		p := place{blocks: 2 + r.Intn(8), size: size}
		p.from = r.Intn(p.blocks - 1)
		p.n = 1 + r.Intn((p.blocks-p.from)/2)
		d, s := fresh(t, p)
		now := snap{}
		for range 40 {
			if r.Intn(3) == 0 {
				d.Fuse(r.Intn(2*p.n+5) - 1)
			}
			next := snap{now.epoch + 1, fill(r.Intn(200), r.Intn(p.length()))}
			switch c := s.Put([]byte(next.bytes)); {
			case len(next.bytes) > p.most() && c == api.Full:
			case len(next.bytes) <= p.most() && c == api.Fine:
				now = next
			case len(next.bytes) <= p.most() && c == api.Down && d.Dark():
				checkTold(t, p, s, now)
				d.Crash(r.Intn(6)-1, r.Intn(size+2))
				if s, c = slots.Open(d, p.from, p.n); c != api.Fine {
					t.Fatal(c)
				}
				if s.Epoch() == next.epoch {
					now = next
				}
			default:
				t.Fatalf("%v: %d bytes: %d", p, len(next.bytes), c)
			}
			checkTold(t, p, s, now)
			checkBeside(t, p, d)
			if r.Intn(15) == 0 {
				d.Crash(0, 0)
				if c := slots.Format(d, p.from, p.n); c != api.Fine {
					t.Fatal(c)
				}
				now = snap{}
				s = open(t, p, d, now)
			}
			if r.Intn(6) == 0 {
				s = open(t, p, d, now)
			}
		}
	}
}

// Slots of any bytes are opened.
func TestOpenOfAnyBytes(t *testing.T) {
	r := rand.New(rand.NewSource(112))
	pieces := []func() string{
		func() string { return "\xF5" }, func() string { return zeros(3) }, func() string { return framed("") }, func() string { return fill(3, 5) },
		func() string { return framed(number(uint64(r.Intn(6))) + fill(1, r.Intn(20))) },
		func() string { return framed(number(r.Uint64()>>r.Intn(64)) + fill(2, r.Intn(40))) },
		func() string { return framed(string(byte(r.Intn(20))) + string(byte(r.Intn(3))) + fill(4, r.Intn(9))) },
	}
	for range 4000 {
		p := place{10, 32, 1, 1 + r.Intn(4)}
		var l [2]string
		now := snap{}
		for slot := range l {
			for len(l[slot]) < p.length() {
				l[slot] += pieces[r.Intn(len(pieces))]()
			}
			l[slot] = l[slot][:p.length()]
			now = counts(now, snapshotOf(l[slot], uint64(slot)))
		}
		open(t, p, lay(t, p, l), now)
	}
}

// snapshotOf a slot, told apart from the program: as far as the frame of so many bytes is what stands there, and they are those of a number that is written anew, and more.
func snapshotOf(all string, slot uint64) snap {
	for k := 0; k+10 <= len(all); k++ {
		in := all[9 : 9+k]
		if !strings.HasPrefix(all, framed(in)) {
			continue
		}
		for n := 1; n <= min(9, k); n++ {
			epoch := binary.BigEndian.Uint64([]byte(zeros(9-n) + in[1:n]))
			if number(epoch) == in[:n] && epoch > 0 && epoch%2 == slot {
				return snap{epoch, in[n:]}
			}
		}
	}
	return snap{}
}

// R1: nil slots, and such as Open didn't make.

func TestNilSlots(t *testing.T) {
	for _, s := range []*slots.Slots{nil, {}} {
		for _, b := range [][]byte{nil, {}, []byte("a"), make([]byte, 600)} {
			if c := s.Put(b); c != api.Nil {
				t.Errorf("Put: %d", c)
			}
		}
		if s.Epoch() != 0 || len(s.Bytes()) != 0 || s.Most() != 0 {
			t.Errorf("epoch %d, %q, at most %d", s.Epoch(), s.Bytes(), s.Most())
		}
	}
}
