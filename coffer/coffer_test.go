package coffer_test

import (
	"bytes"
	"encoding/binary"
	"hash/crc32"
	"math"
	"math/rand"
	"reflect"
	"slices"
	"strings"
	"testing"

	"firebell/api"
	"firebell/block"
	"firebell/coffer"
)

// place is a coffer's, with slots of so many blocks each, on a disk of so many blocks of so many bytes.
type place struct{ blocks, size, slot int }

// logBlocks: how many a log has.
func (p place) logBlocks() int { return (p.blocks - 2*p.slot) / 2 }

// most bytes of a snapshot.
func (p place) most() int { return p.slot*p.size - 19 }

// room of a log without records.
func (p place) room() int { return p.logBlocks() * p.size }

// The parts of a disk, as they lie on it one behind the other; the last one is the odd block.
const (
	slot0 = iota
	slot1
	log0
	log1
	odd
	allParts
)

// parts is what they have, with 0 behind.
type parts [allParts]string

func (p place) lengthOf(part int) int {
	switch part {
	case slot0, slot1:
		return p.slot * p.size
	case log0, log1:
		return p.room()
	}
	return p.blocks % 2 * p.size
}

// slotOf an epoch, and logOf it.
func slotOf(epoch uint64) int { return slot0 + int(epoch%2) }
func logOf(epoch uint64) int  { return log0 + int(epoch%2) }

// places: slots of one block, of some, and so many that each log has one block; with an odd block at the end, and without.
func places() []place {
	return []place{
		{4, 32, 1}, {5, 32, 1}, {6, 32, 1}, {6, 32, 2}, {7, 32, 2}, {8, 32, 1}, {9, 32, 2}, {9, 45, 3}, {10, 40, 2}, {5, 33, 1}, {11, 100, 4}, {5, 512, 1},
	}
}

// darkPlaces: those that are small enough for each crash.
func darkPlaces() []place {
	return []place{{4, 32, 1}, {5, 32, 1}, {6, 32, 1}, {7, 32, 2}, {8, 32, 1}, {9, 45, 2}, {5, 33, 1}}
}

// bigPlaces: those of many blocks.
func bigPlaces() []place {
	return []place{{400, 32, 1}, {400, 32, 199}, {399, 32, 198}, {400, 512, 100}, {399, 512, 1}, {400, 512, 199}}
}

// state is what a coffer has.
type state struct {
	epoch   uint64
	bytes   string
	records []string
}

const greatest = math.MaxUint64

// with one more record.
func (s state) with(b string) state {
	s.records = append(slices.Clip(s.records), b)
	return s
}

// next is behind a checkpoint.
func (s state) next(b string) state { return state{s.epoch + 1, b, nil} }

func (s state) is(o state) bool {
	return s.epoch == o.epoch && s.bytes == o.bytes && slices.Equal(s.records, o.records)
}

// used: bytes of the records' frames.
func (s state) used() int {
	n := 0
	for _, r := range s.records {
		n += 10 + len(r)
	}
	return n
}

// framed is the frame of some bytes, put together apart from the program.
func framed(s string) string {
	b := binary.BigEndian.AppendUint32([]byte{0xF5}, uint32(len(s)))
	b = binary.BigEndian.AppendUint32(b, crc32.Checksum([]byte(s), crc32.MakeTable(crc32.Castagnoli)))
	return string(b) + s + "\x5F"
}

// frames of some records, one behind the other.
func frames(l []string) string {
	var b strings.Builder
	for _, r := range l {
		b.WriteString(framed(r))
	}
	return b.String()
}

// snap is a snapshot, as it stands in its slot; nothing of epoch 0.
func snap(epoch uint64, s string) string {
	if epoch == 0 {
		return ""
	}
	b := bytes.TrimLeft(binary.BigEndian.AppendUint64(nil, epoch), "\x00")
	return framed(string(byte(len(b))) + string(b) + s)
}

// partsOf a state: its own slot and log, and nothing in the others.
func partsOf(s state) parts {
	var l parts
	l[slotOf(s.epoch)] = snap(s.epoch, s.bytes)
	l[logOf(s.epoch)] = frames(s.records)
	return l
}

// fill is so many bytes, none of them 0, that are unlike those of another seed.
func fill(seed, n int) string {
	b := make([]byte, n)
	for i := range b {
		b[i] = byte(1 + (seed*31+i*7)%255)
	}
	return string(b)
}

func zeros(n int) string { return strings.Repeat("\x00", n) }

// roomy is bytes with room behind them, all of it AA.
func roomy(s string) []byte {
	b := append([]byte(s), bytes.Repeat([]byte{0xAA}, 600)...)
	return b[:len(s)]
}

// checkSame: what was handed in by roomy stands as it was, and the room behind it.
func checkSame(t *testing.T, b []byte, s string) {
	t.Helper()
	room := b[len(b) : len(s)+600]
	if string(b) != s || bytes.Count(room, []byte{0xAA}) != len(room) {
		t.Fatalf("what was handed in is %q, not %q, with %x behind", b, s, room)
	}
}

// image is all bytes of a disk whose parts have some, with 0 behind; the odd block has others.
func image(p place, l parts) string {
	l[odd] = fill(41, p.lengthOf(odd))
	all := make([]byte, 0, p.blocks*p.size)
	for part, s := range l {
		all = append(all, s...)
		all = append(all, make([]byte, p.lengthOf(part)-len(s))...)
	}
	return string(all)
}

// put makes a disk on which all bytes last.
func put(t *testing.T, p place, all string) *block.Disk {
	t.Helper()
	d, c := block.New(p.blocks, p.size)
	if c != api.Fine || len(all) != p.blocks*p.size {
		t.Fatalf("%d, %d bytes for %v", c, len(all), p)
	}
	for i := range p.blocks {
		d.Write(i, []byte(all[i*p.size:(i+1)*p.size]))
	}
	if c := d.Sync(); c != api.Fine {
		t.Fatal(c)
	}
	return d
}

func lay(t *testing.T, p place, l parts) *block.Disk {
	t.Helper()
	return put(t, p, image(p, l))
}

// seen is all bytes of a disk.
func seen(t *testing.T, d *block.Disk) string {
	t.Helper()
	var l []byte
	for i := range d.Blocks() {
		b, c := d.Read(i)
		if c != api.Fine {
			t.Fatalf("Read(%d): %d", i, c)
		}
		l = append(l, b...)
	}
	return string(l)
}

// cut the bytes of a disk into its parts.
func cut(p place, all string) parts {
	var l parts
	for part := range l {
		n := p.lengthOf(part)
		l[part], all = all[:n], all[n:]
	}
	return l
}

// checkDisk: the parts have some bytes, and 0 behind, and the odd block is as it was; all of it lasts.
func checkDisk(t *testing.T, p place, d *block.Disk, l parts) {
	t.Helper()
	if d.Waits() != 0 {
		t.Fatalf("%v: %d writes wait", p, d.Waits())
	}
	if got, want := seen(t, d), image(p, l); got != want {
		t.Fatalf("%v: the disk has %q, not %q", p, cut(p, got), cut(p, want))
	}
}

// checkOdd: the odd block is as it was.
func checkOdd(t *testing.T, p place, d *block.Disk) {
	t.Helper()
	if got, want := cut(p, seen(t, d))[odd], fill(41, p.lengthOf(odd)); got != want {
		t.Fatalf("%v: the odd block has %q", p, got)
	}
}

// framesOf what stands at the front of some bytes, told apart from the program.
func framesOf(all string) []string {
	var l []string
	for len(all) >= 10 {
		n := binary.BigEndian.Uint32([]byte(all[1:5]))
		if uint64(n)+10 > uint64(len(all)) || framed(all[9:9+n]) != all[:10+n] {
			break
		}
		l, all = append(l, all[9:9+n]), all[10+n:]
	}
	return l
}

// snapOf a slot, told apart from the program.
func snapOf(all string, slot int) state {
	for _, in := range framesOf(all)[:min(1, len(framesOf(all)))] {
		for n := 1; n <= min(9, len(in)); n++ {
			epoch := binary.BigEndian.Uint64([]byte(zeros(9-n) + in[1:n]))
			if snap(epoch, in[n:]) == framed(in) && slotOf(epoch) == slot {
				return state{epoch, in[n:], nil}
			}
		}
	}
	return state{}
}

// stateOf what a disk has.
func stateOf(l parts) state {
	s, other := snapOf(l[slot0], slot0), snapOf(l[slot1], slot1)
	if other.epoch > s.epoch {
		s = other
	}
	s.records = framesOf(l[logOf(s.epoch)])
	return s
}

// texts of lists of bytes.
func texts(l [][]byte) []string {
	var s []string
	for _, b := range l {
		s = append(s, string(b))
	}
	return s
}

// checkTold: what a coffer tells.
func checkTold(t *testing.T, p place, c *coffer.Coffer, s state) {
	t.Helper()
	if c.Epoch() != s.epoch || string(c.Snapshot()) != s.bytes || c.Records() != len(s.records) || c.Room() != p.room()-s.used() || c.Most() != p.most() {
		t.Fatalf("%v: epoch %d, %q, %d records, %d left, at most %d, not %v", p, c.Epoch(), c.Snapshot(), c.Records(), c.Room(), c.Most(), s)
	}
}

// open opens a coffer that has just this.
func open(t *testing.T, p place, d *block.Disk, s state) *coffer.Coffer {
	t.Helper()
	c, l, e := coffer.Open(d, p.slot)
	if c == nil || e != api.Fine || !slices.Equal(texts(l), s.records) {
		t.Fatalf("Open of %v: %d, records %q, not %q", p, e, l, s.records)
	}
	checkTold(t, p, c, s)
	return c
}

// create makes a coffer on a disk that had other bytes.
func create(t *testing.T, p place) (*block.Disk, *coffer.Coffer) {
	t.Helper()
	var l parts
	for part := range l {
		l[part] = fill(part, p.lengthOf(part))
	}
	d := lay(t, p, l)
	c, e := coffer.Create(d, p.slot)
	if c == nil || e != api.Fine {
		t.Fatalf("Create of %v: %d", p, e)
	}
	checkTold(t, p, c, state{})
	return d, c
}

// crashes goes through all ways in which what waits on a disk may come to last.
func crashes(p place, waits int, do func(keep, torn int)) {
	for keep := range waits + 1 {
		for torn := range p.size + 1 {
			if keep == waits && torn > 0 {
				break
			}
			do(keep, torn)
		}
	}
}

// fuses goes through all fuses, till a deed that is done anew with each of them has answered Fine.
func fuses(t *testing.T, do func(fuse int) api.Code) {
	t.Helper()
	for fuse := 0; ; fuse++ {
		c := do(fuse)
		if c == api.Fine {
			return
		}
		if c != api.Down || fuse > 2000 {
			t.Fatalf("%d with a fuse of %d", c, fuse)
		}
	}
}

// The example.

func TestExample(t *testing.T) {
	d, _ := block.New(8, 32)
	c, e := coffer.Create(d, 1)
	if e != api.Fine || c.Room() != 3*32 || c.Most() != 13 {
		t.Fatalf("%d, room %d, at most %d", e, c.Room(), c.Most())
	}
	// The log that counts without a snapshot is the one at block 2; behind the first checkpoint it is the one at block 5.
	c.Append([]byte("abc"))
	if b, _ := d.Read(2); string(b[:13]) != framed("abc") {
		t.Errorf("block 2: %x", b)
	}
	c.Checkpoint([]byte("xy"))
	c.Append([]byte("def"))
	if b, _ := d.Read(5); c.Room() != 96-13 || string(b[:13]) != framed("def") {
		t.Errorf("room %d, block 5: %x", c.Room(), b)
	}
}

// What stands on the disk, byte for byte.
func TestBytesOfADisk(t *testing.T) {
	d, _ := block.New(9, 32)
	d.Write(8, []byte("odd"))
	c, _ := coffer.Create(d, 2)
	for _, b := range []string{"a", "bc"} {
		c.Append([]byte(b))
	}
	c.Checkpoint([]byte("one"))
	c.Append([]byte("de"))
	c.Checkpoint([]byte("two"))
	c.Append(nil)
	want := map[int]string{0: snap(2, "two"), 2: snap(1, "one"), 4: framed(""), 6: framed("de"), 8: "odd"}
	for i := range 9 {
		if b, _ := d.Read(i); string(b) != want[i]+zeros(32-len(want[i])) {
			t.Errorf("block %d: %x, not %x", i, b, want[i])
		}
	}
	if snap(2, "x") != "\xF5\x00\x00\x00\x03\x19\x21\x0D\x28\x01\x02x\x5F" {
		t.Errorf("a frame is %x", snap(2, "x"))
	}
}

// A coffer can do just what the chapter lists: nobody puts to its slots apart from it.
func TestWhatACofferCanDo(t *testing.T) {
	var got []string
	for m := range reflect.TypeFor[*coffer.Coffer]().Methods() {
		got = append(got, m.Name)
	}
	slices.Sort(got)
	if want := []string{"Append", "Checkpoint", "Epoch", "Most", "Records", "Room", "Snapshot"}; !slices.Equal(got, want) {
		t.Errorf("%v", got)
	}
	for i := range reflect.TypeFor[coffer.Coffer]().NumField() {
		if f := reflect.TypeFor[coffer.Coffer]().Field(i); f.IsExported() {
			t.Errorf("field %s", f.Name)
		}
	}
}

// P12.1: Create.

// slotStands: what may stand in a slot.
func slotStands(p place, slot uint64) []string {
	n := p.slot * p.size
	l := []string{
		"", fill(2, n), strings.Repeat("\xFF", n), "x", framed(""), framed("\x00"),
		snap(2+slot, ""), snap(6+slot, "ab"), snap(greatest-1+slot, "z"), snap(1<<40+slot, fill(3, p.most())), snap(8+slot, "c") + fill(4, n-13),
		snap(3-slot, "other"), snap(greatest-slot, "")[1:], snap(10+slot, "abc")[:12], snap(10+slot, "abc")[:13] + "\x5E", snap(12+slot, fill(1, n))[:n],
	}
	if slot == 1 {
		l = append(l, snap(1, "first"))
	}
	return slices.DeleteFunc(l, func(s string) bool { return len(s) > n })
}

// logStands: what may stand in a log.
func logStands(p place) []string {
	n := p.room()
	l := []string{
		"", fill(5, n), zeros(n-1) + "x", framed(""), framed("a") + framed("bc"), framed(fill(6, n-10)), framed("ab") + "\xF5",
		framed("") + framed("c") + fill(7, n-21), framed("d") + zeros(n-12) + "\x01", framed("a") + framed(fill(1, n))[:n-11], "\x00" + framed("a"),
		framed("") + snap(9, "")[:9], strings.Repeat(framed(""), n/10),
	}
	return slices.DeleteFunc(l, func(s string) bool { return len(s) > n })
}

// stands: what may stand on a disk; each one of each part with some of the others, as many as so many steps leave.
func stands(p place, step int, do func(l parts)) {
	i := 0
	ones, logs := slotStands(p, 1), logStands(p)
	for _, a := range slotStands(p, 0) {
		for _, b := range ones {
			for _, c := range logs {
				for _, d := range logs {
					if i++; i%step == 0 {
						do(parts{a, b, c, d})
					}
				}
			}
		}
	}
}

func TestCreate(t *testing.T) {
	for _, p := range append(places(), bigPlaces()...) {
		step := 29
		if p.blocks > 100 {
			step = 1009
		}
		stands(p, step, func(l parts) {
			d := lay(t, p, l)
			c, e := coffer.Create(d, p.slot)
			if c == nil || e != api.Fine {
				t.Fatalf("Create of %v: %d", p, e)
			}
			checkTold(t, p, c, state{})
			checkDisk(t, p, d, parts{})
			d.Crash(0, 0)
			checkDisk(t, p, d, parts{})
			open(t, p, d, state{})
		})
	}
}

// What is seen as 0 and waits comes to last, too.
func TestCreateOfWhatWaits(t *testing.T) {
	for _, p := range places() {
		d := lay(t, p, parts{fill(1, 32), snap(3, "a"), framed("b"), framed("c")})
		for i := range p.blocks - p.blocks%2 {
			d.Write(i, nil)
		}
		if _, e := coffer.Create(d, p.slot); e != api.Fine {
			t.Fatalf("Create of %v: %d", p, e)
		}
		d.Crash(0, 0)
		checkDisk(t, p, d, parts{})
	}
}

// A coffer that was created is used, and opened.
func TestCreatedOneIsUsed(t *testing.T) {
	for _, p := range append(places(), bigPlaces()...) {
		d, c := create(t, p)
		now := state{}
		for n := range 7 {
			if n%3 == 2 {
				now = now.next(fill(n, min(p.most(), n)))
				if e := c.Checkpoint([]byte(now.bytes)); e != api.Fine {
					t.Fatalf("Checkpoint: %d", e)
				}
			}
			if now.used()+11 <= p.room() {
				now = now.with(fill(n, 1))
				if e := c.Append([]byte(fill(n, 1))); e != api.Fine {
					t.Fatalf("Append: %d", e)
				}
			}
			checkTold(t, p, c, now)
		}
		d.Crash(0, 0)
		open(t, p, d, now)
	}
}

// createDark creates with each fuse and each crash on a disk that has something, and tells what the coffers have that are opened then.
func createDark(t *testing.T, p place, l parts, check func(s state)) {
	t.Helper()
	fuses(t, func(fuse int) api.Code {
		d := lay(t, p, l)
		d.Fuse(fuse)
		c, e := coffer.Create(d, p.slot)
		if e == api.Fine {
			if fuse == 0 {
				t.Fatalf("Create of %v lasts without a deed", p)
			}
			d.Crash(0, 0)
			checkDisk(t, p, d, parts{})
			return e
		}
		if c != nil || e != api.Down || !d.Dark() {
			t.Fatalf("Create of %v with a fuse of %d: %v, %d, dark is %v", p, fuse, c, e, d.Dark())
		}
		crashes(p, d.Waits(), func(keep, torn int) {
			d := lay(t, p, l)
			d.Fuse(fuse)
			coffer.Create(d, p.slot)
			d.Crash(keep, torn)
			checkOdd(t, p, d)
			all := seen(t, d)
			s := stateOf(cut(p, all))
			checkGoesOn(t, p, d, s)
			check(s)
			d = put(t, p, all)
			if _, e := coffer.Create(d, p.slot); e != api.Fine {
				t.Fatalf("Create of %v behind a crash: %d", p, e)
			}
			checkDisk(t, p, d, parts{})
		})
		return e
	})
}

// checkGoesOn: what is opened has just this, and goes on: with a record, a snapshot, and a record behind it, and opened in between.
func checkGoesOn(t *testing.T, p place, d *block.Disk, s state) {
	t.Helper()
	c := open(t, p, d, s)
	if s.used()+11 <= p.room() {
		if e := c.Append([]byte("+")); e != api.Fine {
			t.Fatalf("%v: %d behind a crash", p, e)
		}
		s = s.with("+")
	}
	checkTold(t, p, c, s)
	d.Crash(0, 0)
	c = open(t, p, d, s)
	if s.epoch == greatest {
		return
	}
	if e := c.Checkpoint([]byte("on")); e != api.Fine {
		t.Fatalf("%v: %d behind a crash", p, e)
	}
	if e := c.Append([]byte("-")); e != api.Fine {
		t.Fatalf("%v: %d behind a checkpoint", p, e)
	}
	s = s.next("on").with("-")
	checkTold(t, p, c, s)
	d.Crash(0, 0)
	open(t, p, d, s)
	checkOdd(t, p, d)
}

// P12.4: a crash while one is created on a disk that has a coffer leaves that one, or a new one.
func TestCreateOnADiskThatGoesDark(t *testing.T) {
	for _, p := range darkPlaces() {
		two := []string{"a", ""}
		old := []parts{
			{}, partsOf(state{0, "", two}), partsOf(state{1, "one", two}), partsOf(state{2, "two", nil}), partsOf(state{greatest, "last", two}),
			{snap(2, "two"), snap(1, "one"), "", frames(two)}, {snap(2, "two"), snap(3, "three"), framed("x"), frames(two)}, {snap(2, "two"), snap(3, "three"), framed("x"), ""},
			{snap(4, "four"), snap(3, "three"), fill(2, p.room()), framed("y") + "torn"}, {"", snap(1, "one"), framed("x"), framed("y")}, {snap(2, "two"), "", "", framed("y")},
			{fill(1, p.slot*p.size), fill(2, p.slot*p.size), fill(3, p.room()), fill(4, p.room())}, {"torn", "torn", framed("x"), framed("y")},
		}
		for _, l := range old {
			was := stateOf(l)
			wasThere, isNew := 0, 0
			createDark(t, p, l, func(s state) {
				switch {
				case s.is(state{}):
					isNew++
				case s.is(was):
					wasThere++
				default:
					t.Fatalf("%v: a crash leaves %v of %v", p, s, was)
				}
			})
			if isNew == 0 || wasThere == 0 && !was.is(state{}) {
				t.Fatalf("%v: %d crashes leave %v, and %d a new one", p, wasThere, was, isNew)
			}
		}
	}
}

// Where the log that counts is log 0, and there is a snapshot, no write reaches both: the snapshot may be left alone, but nothing that is elder, and no record without it.
func TestCreateOverRecordsOfAnEvenEpoch(t *testing.T) {
	for _, p := range darkPlaces() {
		for _, l := range []parts{
			partsOf(state{2, "two", []string{"a", ""}}), {snap(6, "six"), snap(5, "five"), framed("x"), framed("y")}, {snap(6, "six"), snap(5, "five"), framed("") + framed(""), ""},
		} {
			was := stateOf(l)
			createDark(t, p, l, func(s state) {
				if !s.is(was) && !s.is(state{was.epoch, was.bytes, nil}) && !s.is(state{}) {
					t.Fatalf("%v: a crash leaves %v of %v", p, s, was)
				}
			})
		}
	}
}

// Whatever stands on the disk, a crash while one is created leaves nothing that wasn't there.
func TestCreateOnAnythingThatGoesDark(t *testing.T) {
	for _, p := range []place{{5, 32, 1}, {6, 32, 2}, {8, 32, 2}} {
		stands(p, 701, func(l parts) {
			was := stateOf(l)
			createDark(t, p, l, func(s state) {
				alone := was.epoch > 0 && was.epoch%2 == 0 && s.is(state{was.epoch, was.bytes, nil})
				if !s.is(was) && !s.is(state{}) && !alone {
					t.Fatalf("%v: a crash leaves %v of %v", p, s, was)
				}
			})
		})
	}
}

// P12.1: Open.

// cleaned: a disk's parts behind Open.
func cleaned(l parts) parts {
	s := stateOf(l)
	l[logOf(s.epoch)] = frames(s.records)
	return l
}

// checkOpen: what is opened is what stands there; its log is cleaned, if it isn't clean, and else no deed is done.
func checkOpen(t *testing.T, p place, l parts) {
	t.Helper()
	d := lay(t, p, l)
	s := stateOf(cut(p, image(p, l)))
	deeds := d.Deeds()
	open(t, p, d, s)
	if clean := image(p, l) == image(p, cleaned(cut(p, image(p, l)))); clean != (d.Deeds() == deeds) {
		t.Fatalf("%v: %d deeds, clean is %v", p, d.Deeds()-deeds, clean)
	}
	checkDisk(t, p, d, cleaned(cut(p, image(p, l))))
	deeds = d.Deeds()
	d.Fuse(0)
	open(t, p, d, s)
	if d.Deeds() != deeds || d.Dark() {
		t.Fatalf("%v: %d deeds when it is opened again, dark is %v", p, d.Deeds()-deeds, d.Dark())
	}
	d.Crash(0, 0)
	checkDisk(t, p, d, cleaned(cut(p, image(p, l))))
}

func TestOpenOfAnything(t *testing.T) {
	for _, p := range append(places(), bigPlaces()...) {
		step := 59
		if p.blocks > 100 {
			step = 1013
		}
		stands(p, step, func(l parts) { checkOpen(t, p, l) })
	}
}

// A disk that never was formatted is one of a coffer without anything.
func TestOpenOfANewDisk(t *testing.T) {
	for _, p := range append(places(), bigPlaces()...) {
		d, _ := block.New(p.blocks, p.size)
		d.Fuse(0)
		open(t, p, d, state{})
	}
}

// Records alone, a snapshot alone, and both; the log that doesn't count has others.
func TestOpenOfWhatWasKept(t *testing.T) {
	for _, p := range append(places(), bigPlaces()...) {
		full := []string{fill(1, p.room()-10)}
		epochs := []uint64{0, 1, 2, 3, 255, 256, 257, 1 << 32, 1<<63 + 1, greatest - 1, greatest}
		if p.blocks > 100 {
			epochs = []uint64{0, 2, greatest}
		}
		for _, epoch := range epochs {
			for i, b := range []string{"", "a", fill(2, p.most())} {
				if epoch == 0 && i > 0 {
					continue
				}
				for _, records := range [][]string{nil, {""}, {"a"}, {"", "b"}, full} {
					s := state{epoch, b, records}
					l := partsOf(s)
					checkOpen(t, p, l)
					l[logOf(epoch+1)] = framed("other") + "x"
					if epoch > 1 {
						l[slotOf(epoch+1)] = snap(epoch-1, "elder")
					}
					d := lay(t, p, l)
					d.Fuse(0)
					open(t, p, d, s)
				}
			}
		}
	}
}

// What stands behind the records goes, and nothing else.
func TestOpenOfALogThatIsNotClean(t *testing.T) {
	for _, p := range places() {
		for _, epoch := range []uint64{0, 1, 2} {
			s := state{epoch, "", []string{"ab"}}
			for at := 12; at < p.room(); at++ {
				l := partsOf(s)
				l[logOf(epoch+1)] = fill(3, p.room())
				want := l
				l[logOf(epoch)] += zeros(at-12) + "x"
				d := lay(t, p, l)
				open(t, p, d, s)
				checkDisk(t, p, d, want)
				d.Crash(0, 0)
				checkDisk(t, p, d, want)
			}
		}
	}
}

// What is seen is what is opened, though it waits; and a log that is cleaned lasts.
func TestOpenOfWhatWaits(t *testing.T) {
	p := place{6, 64, 1}
	d := lay(t, p, partsOf(state{1, "one", []string{"a"}}))
	d.Write(0, []byte(snap(2, "two")))
	d.Write(2, []byte(framed("b")+"torn"))
	open(t, p, d, state{2, "two", []string{"b"}})
	d.Crash(0, 0)
	open(t, p, d, state{2, "two", []string{"b"}})
}

// openDark opens with each fuse and each crash, and so again what that leaves, as deep as it is told.
func openDark(t *testing.T, p place, all string, s state, deep int) {
	t.Helper()
	fuses(t, func(fuse int) api.Code {
		d := put(t, p, all)
		d.Fuse(fuse)
		c, l, e := coffer.Open(d, p.slot)
		if e == api.Fine {
			checkTold(t, p, c, s)
			return e
		}
		if c != nil || len(l) != 0 || e != api.Down || !d.Dark() {
			t.Fatalf("Open of %v with a fuse of %d: %v, %d records, %d, dark is %v", p, fuse, c, len(l), e, d.Dark())
		}
		crashes(p, d.Waits(), func(keep, torn int) {
			d := put(t, p, all)
			d.Fuse(fuse)
			coffer.Open(d, p.slot)
			d.Crash(keep, torn)
			left := seen(t, d)
			if got := stateOf(cut(p, left)); !got.is(s) {
				t.Fatalf("Open of %v: %v comes of %v", p, got, s)
			}
			if deep > 0 {
				openDark(t, p, left, s, deep-1)
				return
			}
			checkGoesOn(t, p, d, s)
		})
		return e
	})
}

// P12.4: a crash while a coffer is opened, and while it is opened again, changes nothing.
func TestOpenOnADiskThatGoesDark(t *testing.T) {
	for _, p := range darkPlaces() {
		// With more blocks there are too many crashes behind crashes; of two the next test has some.
		deep := 0
		if p.logBlocks() == 1 {
			deep = 1
		}
		n := p.room()
		for _, epoch := range []uint64{0, 1, 2, greatest} {
			for _, behind := range []string{fill(1, n-12), framed("a")[:10] + zeros(n-24) + "x", "\xF5"} {
				s := state{epoch, "", []string{"ab"}}
				l := partsOf(s)
				l[logOf(epoch)] += behind[:min(len(behind), n-12)]
				l[logOf(epoch+1)] = framed("other") + fill(2, n-15)
				if epoch > 2 {
					l[slotOf(epoch+1)] = snap(epoch-1, "elder")
				}
				openDark(t, p, image(p, l), s, deep)
			}
			s := state{epoch, "", nil}
			l := partsOf(s)
			l[logOf(epoch)] = fill(2, n)
			openDark(t, p, image(p, l), s, deep)
		}
	}
}

// A log of two blocks that isn't clean, with records in the first and 0 at the front of the second.
func TestOpenedAgainOnADiskThatGoesDark(t *testing.T) {
	p := place{7, 32, 1}
	s := state{3, "abc", []string{"", "a"}}
	l := partsOf(s)
	l[log1] += framed("")[:9] + zeros(9) + fill(2, 20)
	l[slot0], l[log0] = snap(2, "elder"), framed("other")+"torn"
	openDark(t, p, image(p, l), s, 1)
}

// P12.2, P12.3: Append.

// records of no bytes, of one, of some, and as many as there is room for.
func records(room int) []string {
	l := []string{"", "a", "\x00", fill(1, 2), fill(2, room/2), fill(3, room-11), fill(4, room-10)}
	return slices.DeleteFunc(l, func(s string) bool { return len(s) > room-10 })
}

// starts: coffers to go on from; of even epochs and odd ones, with records and without, with an elder snapshot and without.
func starts(p place) []parts {
	var l []parts
	for _, epoch := range []uint64{0, 1, 2, 7, greatest - 1} {
		for _, had := range [][]string{nil, {"x"}} {
			s := partsOf(state{epoch, "s", had})
			l = append(l, s)
			s[logOf(epoch+1)] = framed("other") + fill(5, p.room()-15)
			if epoch > 1 {
				s[slotOf(epoch+1)] = snap(epoch-1, "e")
			} else {
				s[slotOf(epoch+1)] = "torn"
			}
			l = append(l, s)
		}
	}
	if p.blocks > 100 {
		return []parts{l[1], l[6], l[len(l)-1]}
	}
	return l
}

func TestAppend(t *testing.T) {
	for _, p := range append(places(), bigPlaces()...) {
		for _, l := range starts(p) {
			now := stateOf(l)
			for _, first := range records(p.room() - now.used()) {
				d := lay(t, p, l)
				c := open(t, p, d, now)
				had, is := now, l
				for _, r := range append([]string{first}, records(p.room())...) {
					b := roomy(r)
					e := c.Append(b)
					checkSame(t, b, r)
					if full := had.used()+10+len(r) > p.room(); full != (e == api.Full) || !full && e != api.Fine {
						t.Fatalf("%v: %d bytes behind %d: %d", p, len(r), had.used(), e)
					}
					if e == api.Fine {
						had = had.with(r)
						is[logOf(had.epoch)] += framed(r)
					}
					checkTold(t, p, c, had)
					checkDisk(t, p, d, is)
				}
				d.Crash(0, 0)
				open(t, p, d, had)
			}
		}
	}
}

func TestAppendOfNothing(t *testing.T) {
	for _, p := range places() {
		d, c := create(t, p)
		now := state{}
		for n := range 4 {
			b := []byte(nil)
			if n%2 == 1 {
				b = []byte{}
			}
			e := c.Append(b)
			if now.used()+10 > p.room() {
				if e != api.Full {
					t.Fatalf("%v: %d", p, e)
				}
				continue
			}
			now = now.with("")
			if e != api.Fine {
				t.Fatalf("%v: no bytes: %d", p, e)
			}
			checkTold(t, p, c, now)
			open(t, p, d, now)
		}
	}
}

// Each number of bytes, up to as many as there is room for, and more.
func TestRoom(t *testing.T) {
	for _, p := range []place{{4, 32, 1}, {7, 32, 1}, {6, 45, 1}} {
		for first := range p.room() {
			for more := range 3 {
				for epoch := range uint64(2) {
					now := state{epoch, "", nil}
					d := lay(t, p, partsOf(now))
					c := open(t, p, d, now)
					deeds := d.Deeds()
					want := api.Fine
					if first+10 > p.room() {
						want = api.Full
					}
					if e := c.Append([]byte(fill(1, first))); e != want || e == api.Full && d.Deeds() != deeds {
						t.Fatalf("%v: %d bytes: %d", p, first, e)
					}
					if want == api.Fine {
						now = now.with(fill(1, first))
					}
					checkTold(t, p, c, now)
					last := c.Room() - 10 - 1 + more
					if last < 0 {
						continue
					}
					want = api.Fine
					if more == 2 {
						want = api.Full
					}
					if e := c.Append([]byte(fill(2, last))); e != want {
						t.Fatalf("%v: %d bytes behind %d: %d", p, last, first, e)
					}
					if want == api.Fine {
						now = now.with(fill(2, last))
					}
					checkTold(t, p, c, now)
					open(t, p, d, now)
				}
			}
		}
	}
}

// P12.2, P12.3: Checkpoint.

// snapshots of no bytes, of one, of some, and as many as may be.
func snapshots(p place) []string {
	l := []string{"", "a", "\x00", fill(1, 2), fill(2, p.most()-1), fill(3, p.most()), zeros(p.most())}
	return slices.DeleteFunc(l, func(s string) bool { return len(s) > p.most() })
}

func TestCheckpoint(t *testing.T) {
	for _, p := range append(places(), bigPlaces()...) {
		for i, l := range starts(p) {
			d := lay(t, p, l)
			now := stateOf(l)
			c := open(t, p, d, now)
			for n, b := range snapshots(p) {
				in := roomy(b)
				e := c.Checkpoint(in)
				checkSame(t, in, b)
				if now.epoch == greatest {
					if e != api.Over {
						t.Fatalf("%v: behind the greatest epoch: %d", p, e)
					}
					break
				}
				if e != api.Fine {
					t.Fatalf("%v: epoch %d, %d bytes: %d", p, now.epoch+1, len(b), e)
				}
				now = now.next(b)
				l[slotOf(now.epoch)] = snap(now.epoch, b)
				l[logOf(now.epoch)] = ""
				checkTold(t, p, c, now)
				checkDisk(t, p, d, l)
				if n%3 != i%3 {
					continue
				}
				c = open(t, p, d, now)
				r := fill(n, min(n, p.room()-10))
				if e := c.Append([]byte(r)); e != api.Fine {
					t.Fatalf("%v: a record behind a checkpoint: %d", p, e)
				}
				now = now.with(r)
				l[logOf(now.epoch)] = framed(r)
				checkTold(t, p, c, now)
				checkDisk(t, p, d, l)
			}
			d.Crash(0, 0)
			open(t, p, d, now)
		}
	}
}

// Checkpoint behind Checkpoint, with each number of records between, up to a log that is full.
func TestCheckpointsOneBehindTheOther(t *testing.T) {
	for _, p := range append(places(), bigPlaces()...) {
		for _, between := range []int{0, 1, 2, 50} {
			d, c := create(t, p)
			now := state{}
			for n := range 6 {
				for range between {
					r := fill(n, n)
					if now.used()+10+len(r) > p.room() {
						break
					}
					if e := c.Append([]byte(r)); e != api.Fine {
						t.Fatalf("%v: %d", p, e)
					}
					now = now.with(r)
				}
				checkTold(t, p, c, now)
				now = now.next(fill(n, n))
				if e := c.Checkpoint([]byte(now.bytes)); e != api.Fine {
					t.Fatalf("%v: %d", p, e)
				}
				checkTold(t, p, c, now)
				if n%2 == 1 {
					d.Crash(0, 0)
					c = open(t, p, d, now)
				}
			}
			checkOdd(t, p, d)
		}
	}
}

// A log that is full has room again behind a checkpoint.
func TestCheckpointMakesRoom(t *testing.T) {
	for _, p := range append(places(), bigPlaces()...) {
		d, c := create(t, p)
		now := state{}
		for range 5 {
			now = now.with(fill(2, p.room()-10))
			if e := c.Append([]byte(now.records[0])); e != api.Fine || c.Room() != 0 {
				t.Fatalf("%v: %d, room %d", p, e, c.Room())
			}
			if e := c.Append(nil); e != api.Full {
				t.Fatalf("%v: %d", p, e)
			}
			open(t, p, d, now)
			now = now.next("")
			if e := c.Checkpoint(nil); e != api.Fine {
				t.Fatalf("%v: %d", p, e)
			}
			checkTold(t, p, c, now)
		}
	}
}

// The epoch's number has one byte more from time to time, up to the greatest.
func TestEpochsLengths(t *testing.T) {
	for _, p := range places() {
		for n := 1; n <= 8; n++ {
			// Two ahead of the greatest epoch whose number has n bytes.
			now := state{greatest>>(64-8*n) - 2, "s", []string{"x"}}
			d := lay(t, p, partsOf(now))
			c := open(t, p, d, now)
			for range 5 {
				e := c.Checkpoint([]byte(fill(n, p.most())))
				if now.epoch == greatest {
					if e != api.Over {
						t.Fatalf("behind the greatest epoch: %d", e)
					}
					break
				}
				now = now.next(fill(n, p.most())).with("y")
				if e != api.Fine || c.Append([]byte("y")) != api.Fine {
					t.Fatalf("epoch %d: %d", now.epoch, e)
				}
				checkTold(t, p, c, now)
				open(t, p, d, now)
			}
		}
	}
}

// At the greatest epoch there is no checkpoint, but records there are.
func TestTheGreatestEpoch(t *testing.T) {
	for _, p := range append(places(), bigPlaces()...) {
		now := state{greatest, "last", nil}
		l := partsOf(now)
		l[slot0] = snap(greatest-1, "elder")
		l[log0] = framed("other")
		d := lay(t, p, l)
		c := open(t, p, d, now)
		for n := range 4 {
			deeds := d.Deeds()
			for _, b := range snapshots(p) {
				if e := c.Checkpoint([]byte(b)); e != api.Over || d.Deeds() != deeds {
					t.Fatalf("%v: %d, %d deeds", p, e, d.Deeds()-deeds)
				}
				checkTold(t, p, c, now)
			}
			if now.used()+10+n <= p.room() {
				if e := c.Append([]byte(fill(n, n))); e != api.Fine {
					t.Fatalf("%v: %d", p, e)
				}
				now = now.with(fill(n, n))
			}
			checkTold(t, p, c, now)
			open(t, p, d, now)
		}
		l[log1] = frames(now.records)
		checkDisk(t, p, d, l)
	}
}

// Bytes that are kept may look like anything.
func TestWhatLooksLikeOthers(t *testing.T) {
	p := place{9, 64, 2}
	d, c := create(t, p)
	now := state{}
	for _, b := range []string{framed(""), snap(9, "a"), "\xF5", zeros(1), zeros(20), strings.Repeat("\x5F", 20), strings.Repeat("\xFF", 20), "\x00\xF5\xF5\x00", "\xff\xc3", framed("a") + framed("b")} {
		now = now.next(b)
		if e := c.Checkpoint([]byte(b)); e != api.Fine {
			t.Fatal(e)
		}
		for range 2 {
			now = now.with(b)
			if e := c.Append([]byte(b)); e != api.Fine {
				t.Fatal(e)
			}
		}
		d.Crash(0, 0)
		c = open(t, p, d, now)
	}
}

// What is refused as Full changes nothing, does no deed, and what fits is taken behind it.
func TestFull(t *testing.T) {
	many := make([]byte, 1<<20)
	for _, p := range append(places(), bigPlaces()...) {
		for _, l := range starts(p) {
			now := stateOf(l)
			d := lay(t, p, l)
			c := open(t, p, d, now)
			is := cleaned(cut(p, image(p, l)))
			deeds := d.Deeds()
			d.Fuse(0)
			for _, n := range []int{p.most() + 1, p.most() + 2, p.most() + 9, p.most() + 19, p.most() + 20, 2 * (p.most() + 19), len(many)} {
				if e := c.Checkpoint(many[:n]); e != api.Full {
					t.Fatalf("%v: a snapshot of %d bytes: %d", p, n, e)
				}
			}
			for _, n := range []int{c.Room() - 9, c.Room() - 8, c.Room(), c.Room() + 1, p.room() + 1, len(many)} {
				if e := c.Append(many[:n]); e != api.Full {
					t.Fatalf("%v: a record of %d bytes: %d", p, n, e)
				}
			}
			if d.Deeds() != deeds || d.Dark() {
				t.Fatalf("%v: what is refused did %d deeds, dark is %v", p, d.Deeds()-deeds, d.Dark())
			}
			checkTold(t, p, c, now)
			checkDisk(t, p, d, is)
			d.Fuse(-1)
			checkGoesOn(t, p, d, now)
			c = open(t, p, put(t, p, image(p, is)), now)
			if e := c.Append(many[:c.Room()-10]); e != api.Fine || c.Room() != 0 {
				t.Fatalf("%v: what fits: %d", p, e)
			}
			if e := c.Checkpoint(many[:p.most()]); e != api.Fine {
				t.Fatalf("%v: what fits: %d", p, e)
			}
		}
	}
}

// Very many bytes are Full; of a fresh heap they cost nothing.
func TestFullOfVeryMany(t *testing.T) {
	p := place{5, 32, 1}
	d, c := create(t, p)
	many := make([]byte, 1<<30+1)
	deeds := d.Deeds()
	for _, n := range []int{1<<30 - 10, 1 << 30, 1<<30 + 1} {
		if e := c.Append(many[:n]); e != api.Full {
			t.Fatalf("a record of %d bytes: %d", n, e)
		}
		if e := c.Checkpoint(many[:n]); e != api.Full {
			t.Fatalf("a snapshot of %d bytes: %d", n, e)
		}
	}
	if d.Deeds() != deeds {
		t.Fatalf("%d deeds", d.Deeds()-deeds)
	}
	checkTold(t, p, c, state{})
}

// Which refusal comes first.

// doing is a call that may be refused.
type doing struct {
	name string
	do   func(c *coffer.Coffer) api.Code
}

// doings of a place: those that are Full, and those that fit an empty log and a slot.
func doings(p place) (full, fit []doing) {
	do := func(name string, n int) []doing {
		b := make([]byte, n)
		return []doing{
			{name + " record", func(c *coffer.Coffer) api.Code { return c.Append(b) }},
			{name + " snapshot", func(c *coffer.Coffer) api.Code { return c.Checkpoint(b) }},
		}
	}
	full = []doing{do("long", p.room())[0], do("long", p.most()+1)[1]}
	return full, append(do("empty", 0), do("short", 1)...)
}

func TestWhichRefusalComesFirst(t *testing.T) {
	p := place{7, 32, 1}
	full, fit := doings(p)
	for _, now := range []state{{}, {0, "", []string{"a"}}, {4, "abc", nil}, {greatest, "xyz", []string{"a"}}} {
		// Full ahead of Over, and both ahead of a fuse that is over.
		for _, a := range full {
			d := lay(t, p, partsOf(now))
			c := open(t, p, d, now)
			d.Fuse(0)
			if e := a.do(c); e != api.Full || d.Dark() {
				t.Fatalf("epoch %d, %s, a fuse that is over: %d, dark is %v", now.epoch, a.name, e, d.Dark())
			}
			checkTold(t, p, c, now)
		}
		for _, a := range fit {
			d := lay(t, p, partsOf(now))
			c := open(t, p, d, now)
			d.Fuse(0)
			want := api.Down
			if now.epoch == greatest && strings.HasSuffix(a.name, "snapshot") {
				want = api.Over
			}
			if e := a.do(c); e != want || d.Dark() != (want == api.Down) {
				t.Fatalf("epoch %d, %s, a fuse that is over: %d, dark is %v", now.epoch, a.name, e, d.Dark())
			}
			checkTold(t, p, c, now)
		}
		// A dark disk, and a coffer that told Down, ahead of all that.
		for _, first := range append(full, fit...) {
			d := lay(t, p, partsOf(now))
			c := open(t, p, d, now)
			d.Fuse(0)
			d.Sync()
			checkDown(t, p, d, c, now, []doing{first})
			checkDown(t, p, d, c, now, append(full, fit...))
			d.Crash(0, 0)
			checkDown(t, p, d, c, now, append(full, fit...))
			checkDisk(t, p, d, partsOf(now))
			checkGoesOn(t, p, d, now)
			checkDown(t, p, d, c, now, append(full, fit...))
		}
	}
}

// checkDown: a coffer tells Down of all, does no deed, and goes on to tell what it told.
func checkDown(t *testing.T, p place, d *block.Disk, c *coffer.Coffer, s state, l []doing) {
	t.Helper()
	for _, a := range l {
		deeds := d.Deeds()
		if e := a.do(c); e != api.Down || d.Deeds() != deeds {
			t.Fatalf("%v: %s: %d, %d deeds", p, a.name, e, d.Deeds()-deeds)
		}
		checkTold(t, p, c, s)
	}
}

// A disk that was dark while nobody asked leaves a coffer that may go on: it hasn't told Down.
func TestDarkInBetween(t *testing.T) {
	for _, p := range places() {
		d, c := create(t, p)
		d.Fuse(0)
		d.Sync()
		checkTold(t, p, c, state{})
		d.Crash(0, 0)
		checkTold(t, p, c, state{})
		open(t, p, d, state{})
	}
}

func TestWhichRefusalOfAPlaceComesFirst(t *testing.T) {
	for _, slot := range []int{0, -1, 1, 3, math.MinInt, math.MaxInt} {
		if c, e := coffer.Create(nil, slot); c != nil || e != api.Nil {
			t.Errorf("Create(nil, %d): %v, %d", slot, c, e)
		}
		if c, l, e := coffer.Open(nil, slot); c != nil || len(l) != 0 || e != api.Nil {
			t.Errorf("Open(nil, %d): %v, %q, %d", slot, c, l, e)
		}
	}
	for _, p := range append(places(), bigPlaces()...) {
		l := partsOf(state{1, "one", []string{"a"}})
		d := lay(t, p, l)
		d.Fuse(0)
		d.Sync()
		checkWrongSlots(t, d)
		if c, e := coffer.Create(d, p.slot); c != nil || e != api.Down {
			t.Errorf("Create on a dark disk: %v, %d", c, e)
		}
		if c, l, e := coffer.Open(d, p.slot); c != nil || len(l) != 0 || e != api.Down {
			t.Errorf("Open on a dark disk: %v, %q, %d", c, l, e)
		}
		d.Crash(0, 0)
		checkDisk(t, p, d, l)
	}
}

// checkWrongSlots: each of them is Arg, with Create and with Open.
func checkWrongSlots(t *testing.T, d *block.Disk) {
	t.Helper()
	end := d.Blocks()
	for _, slot := range []int{
		0, -1, -2, -end, -end / 2, end / 2, end/2 + 1, end - 1, end, end + 1, 2 * end, 1 << 31, 1<<31 + 1, 1 << 32, 1<<32 + 1, -1 << 32, 1 << 61, 1 << 62, 1<<62 + 1, 3 << 61, -1 << 62,
		math.MinInt, math.MinInt + 1, math.MinInt + end, math.MinInt/2 + 1, math.MaxInt, math.MaxInt - 1, math.MaxInt - end, math.MaxInt/2 + 1, math.MaxInt/2 + 2,
	} {
		if slot >= 1 && 2*slot > 0 && 2*slot+2 <= end && slot <= end {
			continue
		}
		if c, e := coffer.Create(d, slot); c != nil || e != api.Arg {
			t.Fatalf("Create(%d) of %d blocks: %v, %d", slot, end, c, e)
		}
		if c, l, e := coffer.Open(d, slot); c != nil || len(l) != 0 || e != api.Arg {
			t.Fatalf("Open(%d) of %d blocks: %v, %q, %d", slot, end, c, l, e)
		}
	}
}

func TestWrongSlots(t *testing.T) {
	for _, p := range append(places(), bigPlaces()...) {
		l := parts{fill(1, 32), snap(3, "a"), framed("b") + "x", framed("c") + "y"}
		d := lay(t, p, l)
		deeds := d.Deeds()
		d.Fuse(0)
		checkWrongSlots(t, d)
		if d.Deeds() != deeds || d.Dark() {
			t.Fatalf("%v: what is refused did a deed", p)
		}
		checkDisk(t, p, d, l)
	}
	for blocks := range 5 {
		d, _ := block.New(blocks, 32)
		if blocks == 0 {
			d = &block.Disk{}
		}
		checkWrongSlots(t, d)
	}
}

// All slots that are on a small disk with a block for each log, and no others.
func TestAllSlots(t *testing.T) {
	for blocks := 1; blocks <= 12; blocks++ {
		for slot := -2; slot <= blocks+2; slot++ {
			d, _ := block.New(blocks, 32)
			want := api.Arg
			if slot >= 1 && 2*slot+2 <= blocks {
				want = api.Fine
			}
			c, _, o := coffer.Open(d, slot)
			n, e := coffer.Create(d, slot)
			if o != want || e != want || (c == nil) != (want == api.Arg) || (n == nil) != (want == api.Arg) {
				t.Fatalf("slots of %d on %d blocks: %d, %d", slot, blocks, o, e)
			}
			if want == api.Fine && (n.Room() != (blocks-2*slot)/2*32 || n.Most() != slot*32-19) {
				t.Fatalf("slots of %d on %d blocks: room %d, at most %d", slot, blocks, n.Room(), n.Most())
			}
		}
	}
}

// P12.2, P12.4: crashes while a record is appended, or a checkpoint is made.

// doDark does something with each fuse and each crash: there is what there was, or what comes of it, and it goes on.
func doDark(t *testing.T, p place, l parts, a doing, behind state) {
	t.Helper()
	was := stateOf(cut(p, image(p, l)))
	is := cut(p, image(p, cleaned(cut(p, image(p, l)))))
	full, fit := doings(p)
	left, done := 0, 0
	fuses(t, func(fuse int) api.Code {
		d := lay(t, p, l)
		c := open(t, p, d, was)
		d.Fuse(fuse)
		e := a.do(c)
		if e == api.Fine {
			checkTold(t, p, c, behind)
			d.Crash(0, 0)
			open(t, p, d, behind)
			return e
		}
		if e != api.Down || !d.Dark() {
			t.Fatalf("%v: %s with a fuse of %d: %d, dark is %v", p, a.name, fuse, e, d.Dark())
		}
		checkTold(t, p, c, was)
		crashes(p, d.Waits(), func(keep, torn int) {
			d := lay(t, p, l)
			c := open(t, p, d, was)
			d.Fuse(fuse)
			a.do(c)
			d.Crash(keep, torn)
			got := cut(p, seen(t, d))
			s := stateOf(got)
			switch {
			case s.is(was):
				left++
			case s.is(behind):
				done++
			default:
				t.Fatalf("%v: %s leaves %v, neither %v nor %v", p, a.name, s, was, behind)
			}
			checkOthers(t, p, is, got, was, behind)
			checkDown(t, p, d, c, was, append(full, fit...))
			checkGoesOn(t, p, d, s)
			checkDown(t, p, d, c, was, append(full, fit...))
		})
		return e
	})
	if left == 0 || done == 0 {
		t.Fatalf("%v: %s: %d crashes leave what was, %d what comes", p, a.name, left, done)
	}
}

// checkOthers: parts that a call has no business in are as they were, and the slot is written only when the other log is empty.
func checkOthers(t *testing.T, p place, is, got parts, was, behind state) {
	t.Helper()
	may := []int{logOf(behind.epoch)}
	if behind.epoch != was.epoch {
		may = append(may, slotOf(behind.epoch))
		slot, log := slotOf(behind.epoch), logOf(behind.epoch)
		if got[slot] != is[slot] && got[log] != zeros(p.room()) {
			t.Fatalf("%v: the slot has %q, and the log %q still", p, got[slot], got[log])
		}
	}
	for part := range got {
		if !slices.Contains(may, part) && got[part] != is[part] {
			t.Fatalf("%v: part %d has %q, not %q", p, part, got[part], is[part])
		}
	}
}

func TestAppendOnADiskThatGoesDark(t *testing.T) {
	for _, p := range darkPlaces() {
		for _, l := range starts(p) {
			was := stateOf(l)
			room := p.room() - was.used()
			for _, r := range []string{"", "a", fill(2, room-10)} {
				if len(r)+10 > room {
					continue
				}
				a := doing{"a record", func(c *coffer.Coffer) api.Code { return c.Append([]byte(r)) }}
				doDark(t, p, l, a, was.with(r))
			}
		}
	}
}

func TestCheckpointOnADiskThatGoesDark(t *testing.T) {
	for i, p := range darkPlaces() {
		for k, l := range starts(p) {
			was := stateOf(l)
			b := []string{"", "a", fill(2, p.most())}[(i+k)%3]
			a := doing{"a snapshot", func(c *coffer.Coffer) api.Code { return c.Checkpoint([]byte(b)) }}
			doDark(t, p, l, a, was.next(b))
		}
	}
}

// A crash whose keep and torn are wrong is one of what there is.
func TestCrashesAtTheirEnds(t *testing.T) {
	p := place{9, 40, 2}
	was := state{3, "three", []string{"a", "b"}}
	l := partsOf(was)
	l[slot0], l[log0] = snap(2, "two"), framed("other")+"torn"
	ends := []int{-1, 0, 1, 2, 3, 39, 40, 41, 1000, math.MinInt, math.MaxInt}
	behind := was.next(fill(2, 50))
	for fuse := range 14 {
		for _, keep := range ends {
			for _, torn := range ends {
				d := lay(t, p, l)
				c := open(t, p, d, was)
				d.Fuse(fuse)
				e := c.Checkpoint([]byte(behind.bytes))
				d.Crash(keep, torn)
				s := stateOf(cut(p, seen(t, d)))
				if e == api.Fine && !s.is(behind) || !s.is(was) && !s.is(behind) {
					t.Fatalf("%d: %v", e, s)
				}
				checkGoesOn(t, p, d, s)
			}
		}
	}
}

// Of a coffer whose disk has another one by now, or crashed, what only asks tells what it told; no call panics; one that told Down goes on to.
func TestOldCoffers(t *testing.T) {
	for _, p := range places() {
		full, fit := doings(p)
		for way := range 5 {
			for _, down := range []bool{false, true} {
				d, c := create(t, p)
				c.Checkpoint([]byte("abc"))
				c.Append([]byte("a"))
				now := state{1, "abc", []string{"a"}}
				if down {
					d.Fuse(0)
					checkDown(t, p, d, c, now, fit[way%len(fit):][:1])
					d.Crash(0, 0)
				}
				switch way {
				case 0:
					coffer.Create(d, p.slot)
				case 1:
					other := open(t, p, d, now)
					other.Checkpoint([]byte("another"))
					other.Append(nil)
				case 2:
					d.Crash(0, 0)
				case 3:
					d.Fuse(0)
					d.Sync()
					d.Crash(0, 0)
				case 4:
					for i := range p.blocks - p.blocks%2 {
						d.Write(i, []byte("spoilt"))
					}
				}
				checkTold(t, p, c, now)
				if down {
					checkDown(t, p, d, c, now, append(full, fit...))
					continue
				}
				for _, a := range append(full, fit...) {
					a.do(c)
				}
				checkOdd(t, p, d)
			}
		}
	}
}

// R4: nothing is shared.

func TestWhatIsHandedInIsNotLookedAtLater(t *testing.T) {
	p := place{9, 64, 2}
	d, c := create(t, p)
	now := state{}
	for n := range 6 {
		s, r := roomy(fill(n, n*10)), roomy(fill(n+10, n*5))
		if e := c.Checkpoint(s); e != api.Fine {
			t.Fatal(e)
		}
		if e := c.Append(r); e != api.Fine {
			t.Fatal(e)
		}
		checkSame(t, s, fill(n, n*10))
		checkSame(t, r, fill(n+10, n*5))
		now = now.next(string(s)).with(string(r))
		for _, b := range [][]byte{s[:cap(s)], r[:cap(r)]} {
			for i := range b {
				b[i] ^= 0x55
			}
		}
		checkTold(t, p, c, now)
		open(t, p, d, now)
	}
}

func TestWhatIsHandedOutSharesNothing(t *testing.T) {
	p := place{9, 64, 2}
	now := state{4, fill(1, 80), []string{"abc", "", fill(2, 20)}}
	d := lay(t, p, partsOf(now))
	c, l, _ := coffer.Open(d, p.slot)
	other, more, _ := coffer.Open(d, p.slot)
	for range 2 {
		a, b := c.Snapshot(), c.Snapshot()
		for _, x := range append(slices.Clone(l), a) {
			for i := range x {
				x[i] ^= 0x55
			}
			_ = append(x, "spoilt"...)
		}
		l = nil
		if string(b) != now.bytes || !slices.Equal(texts(more), []string{"abc", "", fill(2, 20)}) {
			t.Fatalf("others are %q, %q", b, more)
		}
		checkTold(t, p, c, now)
		checkTold(t, p, open(t, p, d, now), now)
		now = now.next(fill(3, 50)).with("x")
		if c.Checkpoint([]byte(now.bytes)) != api.Fine || c.Append([]byte("x")) != api.Fine {
			t.Fatal("Checkpoint, Append")
		}
		if string(other.Snapshot()) != fill(1, 80) {
			t.Fatalf("another coffer has %q", other.Snapshot())
		}
	}
	held := c.Snapshot()
	_, records, _ := coffer.Open(d, p.slot)
	coffer.Create(d, p.slot)
	if string(held) != now.bytes || !slices.Equal(texts(records), now.records) {
		t.Errorf("what was handed out is %q, %q", held, records)
	}
}

// What one coffer does, another one on another disk doesn't know.
func TestCoffersApart(t *testing.T) {
	p := place{6, 32, 1}
	d, c := create(t, p)
	other, o := create(t, p)
	c.Append([]byte("a"))
	o.Checkpoint([]byte("b"))
	d.Fuse(0)
	if c.Append(nil) != api.Down || o.Append(nil) != api.Fine {
		t.Error("Append")
	}
	checkTold(t, p, c, state{0, "", []string{"a"}})
	open(t, p, other, state{1, "b", []string{""}})
}

// All of it: whatever is done, in any order, a coffer has what was kept, or what was under way.
func TestAnyDeeds(t *testing.T) {
	r := rand.New(rand.NewSource(121))
	for range 500 {
		p := place{blocks: 4 + r.Intn(8), size: 32 + r.Intn(20)}
		p.slot = 1 + r.Intn(p.blocks/2-1)
		d, c := create(t, p)
		now := state{}
		for range 60 {
			if r.Intn(4) == 0 {
				d.Fuse(r.Intn(3*p.blocks/2) - 1)
			}
			b, behind, want := fill(r.Intn(200), r.Intn(p.size)), now, api.Fine
			var e api.Code
			if r.Intn(3) == 0 {
				b = fill(r.Intn(200), r.Intn(p.most()+3))
				behind = now.next(b)
				if len(b) > p.most() {
					want = api.Full
				}
				e = c.Checkpoint([]byte(b))
			} else {
				behind = now.with(b)
				if behind.used() > p.room() {
					want = api.Full
				}
				e = c.Append([]byte(b))
			}
			switch {
			case e != want && (e != api.Down || want != api.Fine || !d.Dark()):
				t.Fatalf("%v: %d, not %d", p, e, want)
			case e == api.Fine:
				now = behind
			case e == api.Down:
				checkTold(t, p, c, now)
				d.Crash(r.Intn(6)-1, r.Intn(p.size+2))
				for {
					d.Fuse(r.Intn(4))
					if _, _, e := coffer.Open(d, p.slot); e == api.Fine {
						break
					}
					d.Crash(r.Intn(6)-1, r.Intn(p.size+2))
				}
				d.Fuse(-1)
				c, _, _ = coffer.Open(d, p.slot)
				if c.Epoch() == behind.epoch && c.Records() == len(behind.records) {
					now = behind
				}
				open(t, p, d, now)
			}
			checkTold(t, p, c, now)
			if r.Intn(6) == 0 && !d.Dark() {
				d.Crash(0, 0)
				c = open(t, p, d, now)
			}
		}
		d.Crash(0, 0)
		checkOdd(t, p, d)
		open(t, p, d, now)
	}
}

// Disks of any bytes are opened, and go on.
func TestOpenOfAnyBytes(t *testing.T) {
	r := rand.New(rand.NewSource(122))
	pieces := []func() string{
		func() string { return "\xF5" }, func() string { return zeros(3) }, func() string { return framed("") }, func() string { return fill(3, 5) },
		func() string { return snap(uint64(1+r.Intn(6)), fill(1, r.Intn(20))) }, func() string { return zeros(40) },
		func() string { return snap(r.Uint64()>>r.Intn(64), fill(2, r.Intn(40))) },
		func() string { return framed(fill(r.Intn(9), r.Intn(30))) },
	}
	for range 3000 {
		p := place{4 + r.Intn(6), 32, 1}
		p.slot += r.Intn(p.blocks/2 - 1)
		var l parts
		for part := range log1 + 1 {
			for len(l[part]) < p.lengthOf(part) {
				l[part] += pieces[r.Intn(len(pieces))]()
			}
			l[part] = l[part][:p.lengthOf(part)]
		}
		checkOpen(t, p, l)
		checkGoesOn(t, p, lay(t, p, l), stateOf(l))
	}
}

// R1: nil coffers, and such as neither Create nor Open made.

func TestNilCoffers(t *testing.T) {
	for _, c := range []*coffer.Coffer{nil, {}} {
		for _, b := range [][]byte{nil, {}, []byte("a"), make([]byte, 600)} {
			if e := c.Append(b); e != api.Nil {
				t.Errorf("Append: %d", e)
			}
			if e := c.Checkpoint(b); e != api.Nil {
				t.Errorf("Checkpoint: %d", e)
			}
		}
		if c.Epoch() != 0 || len(c.Snapshot()) != 0 || c.Records() != 0 || c.Room() != 0 || c.Most() != 0 {
			t.Errorf("epoch %d, %q, %d records, %d left, at most %d", c.Epoch(), c.Snapshot(), c.Records(), c.Room(), c.Most())
		}
	}
}
