package wal_test

import (
	"bytes"
	"encoding/binary"
	"hash/crc32"
	"math"
	"math/rand"
	"slices"
	"strings"
	"testing"

	"firebell/api"
	"firebell/block"
	"firebell/wal"
)

// place is a region of n blocks from one on, on a disk of so many blocks of so many bytes.
type place struct{ blocks, size, from, n int }

func (p place) length() int { return p.n * p.size }

// places: regions of one block, of some and of all; at the disk's front, at its end, and between.
func places() []place {
	return []place{
		{1, 32, 0, 1}, {5, 32, 0, 1}, {5, 32, 4, 1}, {5, 32, 2, 1}, {5, 32, 0, 5}, {5, 32, 1, 3},
		{5, 32, 0, 3}, {5, 32, 2, 3}, {7, 45, 2, 4}, {3, 512, 1, 1}, {6, 100, 0, 6}, {4, 33, 1, 2},
	}
}

// bigPlaces: those of many blocks.
func bigPlaces() []place {
	return []place{{400, 512, 0, 400}, {400, 32, 0, 400}, {400, 32, 100, 200}, {400, 512, 399, 1}, {400, 512, 1, 398}}
}

// around is what a frame has beside its bytes.
const around = 10

// framed is the frame of some bytes, put together apart from the program.
func framed(s string) string {
	b := binary.BigEndian.AppendUint32([]byte{0xF5}, uint32(len(s)))
	b = binary.BigEndian.AppendUint32(b, crc32.Checksum([]byte(s), crc32.MakeTable(crc32.Castagnoli)))
	return string(b) + s + "\x5F"
}

// frames of some records, one behind the other.
func frames(records ...string) string {
	var l []string
	for _, s := range records {
		l = append(l, framed(s))
	}
	return strings.Join(l, "")
}

// fill is so many bytes, none of them 0, that are unlike those of another seed.
func fill(seed, n int) string {
	b := make([]byte, n)
	for i := range b {
		b[i] = byte(1 + (seed*31+i*7)%255)
	}
	return string(b)
}

func zeros(n int) string { return strings.Repeat("\x00", n) }

// roomy is bytes with room behind them, all of it AA.
func roomy(s string) []byte {
	b := append([]byte(s), bytes.Repeat([]byte{0xAA}, 600)...)
	return b[:len(s)]
}

// checkSame: what was handed in by roomy stands as it was, and the room behind it.
func checkSame(t *testing.T, b []byte, s string) {
	t.Helper()
	room := b[len(b) : len(s)+600]
	if string(b) != s || bytes.Count(room, []byte{0xAA}) != len(room) {
		t.Fatalf("what was handed in is %q, not %q, with %x behind", b, s, room)
	}
}

// image is all bytes of a disk on which a region has some, with 0 behind, and all beside it has others.
func image(p place, region string) string {
	front := fill(41, p.from*p.size)
	return front + region + zeros(p.length()-len(region)) + fill(42, (p.blocks-p.from-p.n)*p.size)
}

// lay makes a disk on which all bytes last.
func lay(t *testing.T, p place, all string) *block.Disk {
	t.Helper()
	d, c := block.New(p.blocks, p.size)
	if c != api.Fine || len(all) != p.blocks*p.size {
		t.Fatalf("%d, %d bytes for %v", c, len(all), p)
	}
	for i := range p.blocks {
		d.Write(i, []byte(all[i*p.size:(i+1)*p.size]))
	}
	if c := d.Sync(); c != api.Fine {
		t.Fatal(c)
	}
	return d
}

// seen is all bytes of a disk.
func seen(t *testing.T, d *block.Disk) string {
	t.Helper()
	var l []byte
	for i := range d.Blocks() {
		b, c := d.Read(i)
		if c != api.Fine {
			t.Fatalf("Read(%d): %d", i, c)
		}
		l = append(l, b...)
	}
	return string(l)
}

// regionOf the bytes of a disk.
func regionOf(p place, all string) string { return all[p.from*p.size : (p.from+p.n)*p.size] }

// checkBeside: the blocks beside the region are those of an image.
func checkBeside(t *testing.T, p place, d *block.Disk) {
	t.Helper()
	all := seen(t, d)
	if all != image(p, regionOf(p, all)) {
		t.Fatalf("%v: blocks beside the region were written", p)
	}
}

// checkDisk: the region has some bytes and 0 behind, and the rest is that of an image; all of it lasts, if nothing is to wait.
func checkDisk(t *testing.T, p place, d *block.Disk, region string) {
	t.Helper()
	if d.Waits() != 0 {
		t.Fatalf("%v: %d writes wait", p, d.Waits())
	}
	if got, want := seen(t, d), image(p, region); got != want {
		t.Fatalf("%v: the disk has %q, not %q", p, got, want)
	}
}

// texts of records.
func texts(l [][]byte) []string {
	var s []string
	for _, b := range l {
		s = append(s, string(b))
	}
	return s
}

// checkCounts: what a log tells of its room.
func checkCounts(t *testing.T, p place, l *wal.Log, used int) {
	t.Helper()
	if l.Used() != used || l.Room() != p.length()-used {
		t.Fatalf("%v: %d used and room for %d, not %d and %d", p, l.Used(), l.Room(), used, p.length()-used)
	}
}

// open opens a log that has just such records.
func open(t *testing.T, p place, d *block.Disk, records ...string) *wal.Log {
	t.Helper()
	l, got, c := wal.Open(d, p.from, p.n)
	if l == nil || c != api.Fine {
		t.Fatalf("Open of %v: %v, %d", p, l, c)
	}
	if !slices.Equal(texts(got), records) {
		t.Fatalf("Open of %v: %q, not %q", p, texts(got), records)
	}
	checkCounts(t, p, l, len(frames(records...)))
	return l
}

// openClean opens a log without a deed.
func openClean(t *testing.T, p place, d *block.Disk, records ...string) *wal.Log {
	t.Helper()
	deeds, waits := d.Deeds(), d.Waits()
	l := open(t, p, d, records...)
	if d.Deeds() != deeds || d.Waits() != waits {
		t.Fatalf("Open of %v, which is clean: %d deeds, %d more writes wait", p, d.Deeds()-deeds, d.Waits()-waits)
	}
	return l
}

// fresh is a log of a region that was formatted.
func fresh(t *testing.T, p place) (*block.Disk, *wal.Log) {
	t.Helper()
	d := lay(t, p, image(p, fill(9, p.length())))
	if c := wal.Format(d, p.from, p.n); c != api.Fine {
		t.Fatalf("Format of %v: %d", p, c)
	}
	return d, openClean(t, p, d)
}

// ends of keep and torn, beside those that are told.
func ends(l ...int) []int { return append(l, -1, math.MinInt, 1000, math.MaxInt) }

// crashes goes through all ways in which what waits on a disk may come to last; each time anew.
func crashes(p place, waits int, do func(keep, torn int)) {
	for keep := range waits + 1 {
		for torn := range p.size + 1 {
			if keep == waits && torn > 0 {
				break
			}
			do(keep, torn)
		}
	}
}

// The example.

func TestExample(t *testing.T) {
	p := place{2, 32, 0, 2}
	_, l := fresh(t, p)
	if l.Room() != 64 || l.Used() != 0 {
		t.Errorf("room for %d", l.Room())
	}
	if c := l.Append([]byte("abc")); c != api.Fine || l.Room() != 51 || l.Used() != 13 {
		t.Errorf("%d, room for %d, %d used", c, l.Room(), l.Used())
	}
}

// P10.2: beyond 2^30 bytes the size of a frame isn't told. It stands here, since on a heap that wasn't used yet so many bytes cost nothing.
func TestFullOfVeryMany(t *testing.T) {
	p := place{3, 32, 1, 2}
	d, l := fresh(t, p)
	many := make([]byte, 1<<30+1)
	deeds := d.Deeds()
	for _, n := range []int{1<<30 - 1, 1 << 30, 1<<30 + 1} {
		if c := l.Append(many[:n]); c != api.Full || d.Deeds() != deeds {
			t.Fatalf("%d bytes: %d, %d deeds", n, c, d.Deeds()-deeds)
		}
		checkCounts(t, p, l, 0)
	}
	if c := l.Append([]byte("abc")); c != api.Fine {
		t.Fatal(c)
	}
	openClean(t, p, d, "abc")
}

// P10.1: Format.

func TestFormat(t *testing.T) {
	for _, p := range append(places(), bigPlaces()...) {
		for _, old := range []string{"", fill(3, p.length()), framed("abc"), frames("", "") + "x", strings.Repeat("\xFF", p.length()), zeros(p.length()-1) + "x"} {
			if len(old) > p.length() {
				continue
			}
			d := lay(t, p, image(p, old))
			if c := wal.Format(d, p.from, p.n); c != api.Fine {
				t.Fatalf("Format of %v: %d", p, c)
			}
			checkDisk(t, p, d, "")
			d.Crash(0, 0)
			checkDisk(t, p, d, "")
			openClean(t, p, d)
		}
	}
}

// What is seen as 0 and waits comes to last, too.
func TestFormatOfWhatWaits(t *testing.T) {
	for _, p := range places() {
		d := lay(t, p, image(p, fill(3, p.length())))
		for i := range p.n {
			d.Write(p.from+i, nil)
		}
		if c := wal.Format(d, p.from, p.n); c != api.Fine {
			t.Fatalf("Format of %v: %d", p, c)
		}
		d.Crash(0, 0)
		checkDisk(t, p, d, "")
	}
}

func TestFormatOnADiskThatGoesDark(t *testing.T) {
	for _, p := range places() {
		for fuse := 0; ; fuse++ {
			c := formatDark(t, p, fuse)
			if c == api.Fine && fuse == 0 {
				t.Fatalf("Format of %v lasts without a deed", p)
			}
			if c == api.Fine {
				break
			}
		}
	}
}

// formatDark formats with a fuse, and tells the code.
func formatDark(t *testing.T, p place, fuse int) api.Code {
	t.Helper()
	d := lay(t, p, image(p, frames("abc")+fill(3, p.length()-13)))
	d.Fuse(fuse)
	c := wal.Format(d, p.from, p.n)
	if c == api.Fine {
		d.Crash(0, 0)
		checkDisk(t, p, d, "")
		return c
	}
	if c != api.Down || !d.Dark() {
		t.Fatalf("Format of %v with a fuse of %d: %d, dark is %v", p, fuse, c, d.Dark())
	}
	if c := wal.Format(d, p.from, p.n); c != api.Down {
		t.Fatalf("Format on a dark disk: %d", c)
	}
	crashes(p, d.Waits(), func(keep, torn int) {
		d := lay(t, p, image(p, frames("abc")+fill(3, p.length()-13)))
		d.Fuse(fuse)
		wal.Format(d, p.from, p.n)
		d.Crash(keep, torn)
		checkBeside(t, p, d)
		if c := wal.Format(d, p.from, p.n); c != api.Fine {
			t.Fatalf("Format of %v behind a crash: %d", p, c)
		}
		checkDisk(t, p, d, "")
	})
	return c
}

// P10.1: Open.

// rows of records that fit in so many bytes: none, one of each kind, such as end at a block's end, and such as fill all.
func rows(p place) [][]string {
	length := p.length()
	l := [][]string{
		{}, {""}, {"a"}, {"abc"}, {"", "", ""}, {fill(1, p.size-around)}, {fill(1, p.size-around-1)}, {fill(1, p.size-around+1)},
		{"abc", fill(2, 30), "x"}, {fill(1, length-around)}, {fill(1, length-around-1)}, {"abc", fill(4, length-2*around-3)},
		{"", fill(4, max(0, length-2*around-1))}, {framed("")}, {zeros(5), "\xF5\x00\x00\x00\x00", strings.Repeat("\x5F", 9)},
	}
	if length%around == 0 {
		l = append(l, make([]string, length/around))
	}
	return slices.DeleteFunc(l, func(r []string) bool { return len(frames(r...)) > length })
}

// wastes that may stand behind records and are none: what has one byte that isn't 0 is enough.
func wastes(left int) []string {
	whole := framed("of another time")
	l := []string{
		"x", "\xF5", "\x5F", "\xF5\x00\x00\x00\x09", "\xF5\xFF\xFF\xFF\xFF" + fill(3, 20), "\x00x", "\x00" + whole, "x" + whole + framed(""),
		whole[:len(whole)-1], whole[:len(whole)-1] + "\x5E", whole[:12] + "X" + whole[13:], whole[:3], whole[1:],
		zeros(max(left-1, 0)) + "x", fill(5, left), fill(6, max(left-1, 1)), zeros(left/2) + whole, strings.Repeat("\xFF", left), "\xF5" + zeros(max(left-2, 0)) + "\x5F",
	}
	// A frame that would end beyond the region.
	long := framed(fill(7, left))
	l = append(l, long[:left])
	if left > around {
		l = append(l, framed(fill(7, left-around+1))[:left])
	}
	return slices.DeleteFunc(l, func(s string) bool { return s == "" || len(s) > left })
}

func TestOpenOfCleanRegions(t *testing.T) {
	for _, p := range append(places(), bigPlaces()...) {
		for _, row := range rows(p) {
			d := lay(t, p, image(p, frames(row...)))
			// No deed is done, so a fuse that is over changes nothing.
			d.Fuse(0)
			openClean(t, p, d, row...)
			openClean(t, p, d, row...)
			d.Crash(0, 0)
			checkDisk(t, p, d, frames(row...))
		}
	}
}

func TestOpenOfRegionsThatAreNotClean(t *testing.T) {
	for _, p := range append(places(), bigPlaces()...) {
		for _, row := range rows(p) {
			used := frames(row...)
			if len(used) == p.length() {
				continue
			}
			for _, waste := range wastes(p.length() - len(used)) {
				d := lay(t, p, image(p, used+waste))
				open(t, p, d, row...)
				checkDisk(t, p, d, used)
				d.Crash(0, 0)
				checkDisk(t, p, d, used)
				openClean(t, p, d, row...)
			}
		}
	}
}

func TestOpenOfAFullRegion(t *testing.T) {
	for _, p := range append(places(), bigPlaces()...) {
		row := []string{fill(1, p.length()-around)}
		d := lay(t, p, image(p, frames(row...)))
		l := openClean(t, p, d, row...)
		deeds := d.Deeds()
		for _, b := range [][]byte{nil, {}, []byte("a"), make([]byte, p.length())} {
			if c := l.Append(b); c != api.Full || d.Deeds() != deeds {
				t.Fatalf("%v: %d, %d deeds", p, c, d.Deeds()-deeds)
			}
		}
		openClean(t, p, d, row...)
	}
}

// A frame that stands over the region's end is none, though the blocks behind have the rest of it.
func TestFramesOverTheEndAreNone(t *testing.T) {
	p := place{3, 32, 0, 2}
	whole := framed("abc") + framed(fill(1, 50))
	d := lay(t, p, whole+zeros(96-len(whole)))
	open(t, p, d, "abc")
	if got := seen(t, d); got != framed("abc")+zeros(51)+whole[64:]+zeros(96-len(whole)) {
		t.Errorf("%q", got)
	}
}

// Cleaning goes from the front on: wherever the disk goes dark, and whatever comes to last, of what stood behind the records
// a beginning is 0, and the rest is as it was.
func TestOpenOnADiskThatGoesDark(t *testing.T) {
	for _, p := range places() {
		for _, row := range rows(p) {
			used := frames(row...)
			for _, waste := range wastes(p.length() - len(used)) {
				if (len(waste)+len(row)+p.n)%3 == 0 || p.size < 50 && p.n < 4 {
					openDark(t, p, row, image(p, used+waste))
				}
			}
		}
	}
}

// openDark opens with each fuse, and with each crash.
func openDark(t *testing.T, p place, row []string, all string) {
	t.Helper()
	used := len(frames(row...))
	for fuse := 0; ; fuse++ {
		d := lay(t, p, all)
		d.Fuse(fuse)
		l, records, c := wal.Open(d, p.from, p.n)
		if c == api.Fine && fuse > 0 {
			break
		}
		if l != nil || len(records) != 0 || c != api.Down || !d.Dark() {
			t.Fatalf("Open of %v with a fuse of %d: %v, %q, %d, dark is %v", p, fuse, l, records, c, d.Dark())
		}
		for keep := range d.Waits() + 1 {
			for _, torn := range []int{0, 1, used % p.size, used%p.size + 1, p.size / 2, p.size - 1, p.size} {
				d := lay(t, p, all)
				d.Fuse(fuse)
				wal.Open(d, p.from, p.n)
				d.Crash(keep, torn)
				checkWiped(t, p, d, used, regionOf(p, all))
				again(t, p, d, row, keep, torn)
			}
		}
	}
}

// checkWiped: a beginning of what stands behind the records is 0, the rest is as it was.
func checkWiped(t *testing.T, p place, d *block.Disk, used int, old string) {
	t.Helper()
	checkBeside(t, p, d)
	got := regionOf(p, seen(t, d))
	if got[:used] != old[:used] {
		t.Fatalf("%v: the records were %q, and are %q", p, old[:used], got[:used])
	}
	wiped := len(got)
	for wiped > used && got[wiped-1] == old[wiped-1] {
		wiped--
	}
	if got[used:wiped] != zeros(wiped-used) {
		t.Fatalf("%v: behind the records there was %q, and is %q", p, old[used:], got[used:])
	}
}

// again opens behind a crash, with one more crash under way.
func again(t *testing.T, p place, d *block.Disk, row []string, keep, torn int) {
	t.Helper()
	d.Fuse((torn + 2) % 3)
	_, records, c := wal.Open(d, p.from, p.n)
	if c == api.Fine && !slices.Equal(texts(records), row) {
		t.Fatalf("%v: %q, not %q", p, texts(records), row)
	}
	d.Crash(keep, torn+1)
	open(t, p, d, row...)
	d.Crash(0, 0)
	checkDisk(t, p, d, frames(row...))
	openClean(t, p, d, row...)
}

// What becomes 0 out of order would be a record: its frame has 0 where something else stands.
func TestWasteThatIsAlmostAFrame(t *testing.T) {
	p := place{7, 32, 1, 5}
	for _, row := range [][]string{{}, {"abc"}, {fill(1, 22)}} {
		used := frames(row...)
		whole := framed(fill(2, 10) + zeros(80) + fill(3, 10))
		for at := 21; at < 95; at++ {
			waste := whole[:at] + "x" + whole[at+1:]
			openDark(t, p, row, image(p, used+waste))
			openDark(t, p, row, image(p, used+whole[:20]+fill(4, at-20)+whole[at:]))
		}
	}
}

// P10.2: Append.

func TestAppend(t *testing.T) {
	for _, p := range append(places(), bigPlaces()...) {
		for _, row := range rows(p) {
			d, l := fresh(t, p)
			used := ""
			for n, s := range row {
				b := roomy(s)
				if c := l.Append(b); c != api.Fine {
					t.Fatalf("%v: record %d of %d bytes: %d", p, n, len(s), c)
				}
				checkSame(t, b, s)
				used += framed(s)
				checkCounts(t, p, l, len(used))
				if n < 20 {
					checkDisk(t, p, d, used)
				}
			}
			d.Crash(0, 0)
			checkDisk(t, p, d, frames(row...))
			openClean(t, p, d, row...)
		}
	}
}

// A log that was opened with records goes on behind them, one that was cleaned, too.
func TestAppendBehindRecords(t *testing.T) {
	for _, p := range append(places(), bigPlaces()...) {
		for n, row := range rows(p) {
			used := frames(row...)
			left := p.length() - len(used)
			if left < around {
				continue
			}
			for _, waste := range append(wastes(left), "") {
				more := fill(n, (left-around)/2)
				d := lay(t, p, image(p, used+waste))
				l := open(t, p, d, row...)
				if c := l.Append([]byte(more)); c != api.Fine {
					t.Fatalf("%v: a record of %d bytes behind %d: %d", p, len(more), len(used), c)
				}
				all := append(slices.Clone(row), more)
				checkCounts(t, p, l, len(frames(all...)))
				d.Crash(0, 0)
				checkDisk(t, p, d, frames(all...))
				openClean(t, p, d, all...)
			}
		}
	}
}

func TestAppendOfNothing(t *testing.T) {
	for _, p := range places() {
		d, l := fresh(t, p)
		var row []string
		for l.Room() >= around {
			b := []byte(nil)
			if len(row)%2 == 1 {
				b = []byte{}
			}
			if c := l.Append(b); c != api.Fine {
				t.Fatalf("%v: record %d of no bytes: %d", p, len(row), c)
			}
			row = append(row, "")
			checkCounts(t, p, l, around*len(row))
		}
		if c := l.Append(nil); c != api.Full {
			t.Fatalf("%v: %d", p, c)
		}
		d.Crash(0, 0)
		openClean(t, p, d, row...)
	}
}

// Each length of a record, at each place of a block: the one that fits to the last byte, and the one that is a byte too great.
func TestAppendOfEachLength(t *testing.T) {
	p := place{5, 32, 1, 3}
	for ahead := range 80 {
		for n := range 100 {
			d, l := fresh(t, p)
			row := []string{fill(1, ahead)}
			l.Append([]byte(row[0]))
			c := l.Append([]byte(fill(2, n)))
			want := api.Full
			if 2*around+ahead+n <= 96 {
				want, row = api.Fine, append(row, fill(2, n))
			}
			if c != want {
				t.Fatalf("%d bytes behind %d: %d", n, ahead, c)
			}
			checkCounts(t, p, l, len(frames(row...)))
			checkDisk(t, p, d, frames(row...))
			openClean(t, p, d, row...)
		}
	}
}

// What is refused as Full changes nothing, and the next one that fits is taken.
func TestFull(t *testing.T) {
	for _, p := range append(places(), bigPlaces()...) {
		for _, row := range rows(p) {
			d := lay(t, p, image(p, frames(row...)))
			l := open(t, p, d, row...)
			room := l.Room()
			deeds := d.Deeds()
			for _, n := range []int{room - around + 1, room - around + 2, room - 1, room, room + 1, room + p.size, 1 << 20} {
				if n < 0 || n+around <= room {
					continue
				}
				if c := l.Append(make([]byte, n)); c != api.Full {
					t.Fatalf("%v: %d bytes with room for %d: %d", p, n, room, c)
				}
				checkCounts(t, p, l, len(frames(row...)))
			}
			if d.Deeds() != deeds || d.Dark() {
				t.Fatalf("%v: what is refused did %d deeds", p, d.Deeds()-deeds)
			}
			checkDisk(t, p, d, frames(row...))
			if room < around {
				continue
			}
			last := fill(8, room-around)
			if c := l.Append([]byte(last)); c != api.Fine {
				t.Fatalf("%v: %d bytes with room for %d: %d", p, len(last), room, c)
			}
			checkCounts(t, p, l, p.length())
			d.Crash(0, 0)
			openClean(t, p, d, append(slices.Clone(row), last)...)
		}
	}
}

// A fuse at Append: Full is told ahead of a fuse that is over, Down of a dark disk ahead of Full.
func TestWhichRefusalComesFirst(t *testing.T) {
	p := place{3, 32, 1, 2}
	long, short := make([]byte, 60), []byte("abc")
	d, l := fresh(t, p)
	d.Fuse(0)
	if c := l.Append(long); c != api.Full || d.Dark() {
		t.Fatalf("too great a record at a fuse that is over: %d, dark is %v", c, d.Dark())
	}
	if c := l.Append(short); c != api.Down || !d.Dark() {
		t.Fatalf("a fuse that is over: %d, dark is %v", c, d.Dark())
	}
	for _, b := range [][]byte{long, short, nil, long} {
		if c := l.Append(b); c != api.Down {
			t.Fatalf("a dark disk: %d", c)
		}
	}
	d.Crash(0, 0)
	for _, b := range [][]byte{long, short, nil, long} {
		if c := l.Append(b); c != api.Down {
			t.Fatalf("a log that told Down: %d", c)
		}
	}
	checkCounts(t, p, l, 0)
	// A log that only saw the disk dark told Down, too, though the record was too great.
	for _, b := range [][]byte{long, short, nil} {
		d, l := fresh(t, p)
		d.Fuse(0)
		d.Sync()
		if c := l.Append(b); c != api.Down {
			t.Fatalf("a dark disk: %d", c)
		}
		d.Crash(0, 0)
		deeds := d.Deeds()
		for _, b := range [][]byte{long, short, nil} {
			if c := l.Append(b); c != api.Down || d.Deeds() != deeds {
				t.Fatalf("a log that told Down: %d, %d deeds", c, d.Deeds()-deeds)
			}
		}
		checkDisk(t, p, d, "")
		checkCounts(t, p, l, 0)
	}
	// A nil disk ahead of a wrong region, a wrong region ahead of a dark disk.
	for _, r := range [][2]int{{0, 1}, {-1, 1}, {0, 0}, {3, 1}, {math.MinInt, math.MaxInt}} {
		if c := wal.Format(nil, r[0], r[1]); c != api.Nil {
			t.Errorf("Format(nil, %d, %d): %d", r[0], r[1], c)
		}
		if l, records, c := wal.Open(nil, r[0], r[1]); l != nil || len(records) != 0 || c != api.Nil {
			t.Errorf("Open(nil, %d, %d): %v, %q, %d", r[0], r[1], l, records, c)
		}
	}
	d = lay(t, p, image(p, framed("abc")))
	d.Fuse(0)
	d.Sync()
	checkWrongRegions(t, p, d)
	if c := wal.Format(d, 1, 2); c != api.Down {
		t.Errorf("Format on a dark disk: %d", c)
	}
	if l, records, c := wal.Open(d, 1, 2); l != nil || len(records) != 0 || c != api.Down {
		t.Errorf("Open on a dark disk: %v, %q, %d", l, records, c)
	}
}

// checkWrongRegions: each of them is Arg, with Format and with Open.
func checkWrongRegions(t *testing.T, p place, d *block.Disk) {
	t.Helper()
	end := p.blocks
	numbers := []int{-1, -2, -end, 0, 1, 2, end - 1, end, end + 1, 1 << 32, -1 << 32, 1 << 58, 1 << 62, math.MinInt, math.MinInt + 1, math.MinInt + end, math.MaxInt, math.MaxInt - 1, math.MaxInt - end}
	for _, from := range numbers {
		for _, n := range numbers {
			if from >= 0 && n >= 1 && from <= end && n <= end-from {
				continue
			}
			if c := wal.Format(d, from, n); c != api.Arg {
				t.Fatalf("Format(%d, %d) of %d blocks: %d", from, n, end, c)
			}
			if l, records, c := wal.Open(d, from, n); l != nil || len(records) != 0 || c != api.Arg {
				t.Fatalf("Open(%d, %d) of %d blocks: %v, %q, %d", from, n, end, l, records, c)
			}
		}
	}
}

func TestWrongRegions(t *testing.T) {
	for _, p := range append(places(), bigPlaces()...) {
		all := image(p, fill(3, p.length()))
		d := lay(t, p, all)
		deeds := d.Deeds()
		d.Fuse(0)
		checkWrongRegions(t, p, d)
		if d.Deeds() != deeds || d.Dark() || seen(t, d) != all {
			t.Fatalf("%v: what is refused changed the disk", p)
		}
	}
	none := &block.Disk{}
	for _, r := range [][2]int{{0, 0}, {0, 1}, {-1, 1}, {0, math.MaxInt}} {
		if c := wal.Format(none, r[0], r[1]); c != api.Arg {
			t.Errorf("Format(%d, %d) of a disk without blocks: %d", r[0], r[1], c)
		}
		if l, _, c := wal.Open(none, r[0], r[1]); l != nil || c != api.Arg {
			t.Errorf("Open(%d, %d) of a disk without blocks: %d", r[0], r[1], c)
		}
	}
}

// P10.3: crashes while a record is appended.

func TestAppendOnADiskThatGoesDark(t *testing.T) {
	for _, p := range places() {
		for n, row := range rows(p) {
			room := p.length() - len(frames(row...))
			for _, size := range []int{0, 1, 3, 20, room/2 - around, room - around - 1, room - around} {
				if size < 0 || size+around > room || size > 120 {
					continue
				}
				appendDark(t, p, row, fill(n+size, size))
				appendDark(t, p, row, zeros(size))
			}
		}
	}
}

// appendDark appends a record behind others, with each fuse, and with each crash.
func appendDark(t *testing.T, p place, row []string, s string) {
	t.Helper()
	used := frames(row...)
	all := image(p, used)
	more := append(slices.Clone(row), s)
	for fuse := 0; ; fuse++ {
		d := lay(t, p, all)
		l := openClean(t, p, d, row...)
		d.Fuse(fuse)
		c := l.Append([]byte(s))
		if c == api.Fine && fuse > 0 {
			d.Crash(0, 0)
			checkDisk(t, p, d, frames(more...))
			break
		}
		if c != api.Down || !d.Dark() {
			t.Fatalf("%v: %d with a fuse of %d, dark is %v", p, c, fuse, d.Dark())
		}
		checkCounts(t, p, l, len(used))
		crashes(p, d.Waits(), func(keep, torn int) {
			d := lay(t, p, all)
			l := openClean(t, p, d, row...)
			d.Fuse(fuse)
			l.Append([]byte(s))
			d.Crash(keep, torn)
			checkAppended(t, p, d, row, more)
			// The log that told Down goes on to, and touches nothing.
			deeds := d.Deeds()
			if c := l.Append([]byte(s)); c != api.Down || d.Deeds() != deeds {
				t.Fatalf("%v: a log that told Down: %d, %d deeds", p, c, d.Deeds()-deeds)
			}
			checkCounts(t, p, l, len(used))
		})
	}
}

// checkAppended: the records are the ones or the others, and one more is taken behind them.
func checkAppended(t *testing.T, p place, d *block.Disk, row, more []string) {
	t.Helper()
	checkBeside(t, p, d)
	l, got, c := wal.Open(d, p.from, p.n)
	records := texts(got)
	if c != api.Fine || !slices.Equal(records, row) && !slices.Equal(records, more) {
		t.Fatalf("%v: %d, %q, neither %q nor %q", p, c, records, row, more)
	}
	checkCounts(t, p, l, len(frames(records...)))
	checkDisk(t, p, d, frames(records...))
	if l.Room() < around+2 {
		return
	}
	if c := l.Append([]byte("on")); c != api.Fine {
		t.Fatalf("%v: %d behind a crash", p, c)
	}
	d.Crash(0, 0)
	openClean(t, p, d, append(records, "on")...)
}

// A crash whose keep and torn are wrong is one of what there is.
func TestCrashesAtTheirEnds(t *testing.T) {
	p := place{6, 40, 1, 4}
	row, s := []string{"abc", fill(1, 30)}, fill(2, 70)
	for fuse := range 5 {
		for _, keep := range ends(0, 1, 2, 3) {
			for _, torn := range ends(0, 1, 39, 40, 41) {
				d := lay(t, p, image(p, frames(row...)+fill(3, 90)))
				d.Fuse(fuse)
				wal.Open(d, p.from, p.n)
				d.Crash(keep, torn)
				again(t, p, d, row, keep, torn)
				d = lay(t, p, image(p, frames(row...)))
				l := openClean(t, p, d, row...)
				d.Fuse(fuse)
				c := l.Append([]byte(s))
				d.Crash(keep, torn)
				more := append(slices.Clone(row), s)
				if c == api.Fine {
					openClean(t, p, d, more...)
					continue
				}
				checkAppended(t, p, d, row, more)
			}
		}
	}
}

// Of a log whose region was formatted or opened again, or whose disk crashed, what only asks tells what it told; no call panics.
func TestOldLogs(t *testing.T) {
	for _, p := range places() {
		for way := range 4 {
			d, l := fresh(t, p)
			l.Append([]byte("abc"))
			switch way {
			case 0:
				wal.Format(d, p.from, p.n)
			case 1:
				wal.Open(d, p.from, p.n)
			case 2:
				d.Crash(0, 0)
			case 3:
				d.Fuse(0)
				d.Sync()
				d.Crash(0, 0)
			}
			checkCounts(t, p, l, 13)
			other, _, c := wal.Open(d, p.from, p.n)
			if c != api.Fine {
				t.Fatal(c)
			}
			other.Append([]byte("more"))
			checkCounts(t, p, l, 13)
			l.Append(make([]byte, 5))
			l.Append(nil)
			checkBeside(t, p, d)
		}
		// One that told Down goes on to, behind all of it.
		d, l := fresh(t, p)
		l.Append([]byte("abc"))
		d.Fuse(0)
		l.Append(nil)
		for range 3 {
			d.Crash(9, 9)
			if c := l.Append(nil); c != api.Down {
				t.Fatalf("behind a crash: %d", c)
			}
			wal.Open(d, p.from, p.n)
			if c := l.Append(nil); c != api.Down {
				t.Fatalf("opened again: %d", c)
			}
			wal.Format(d, p.from, p.n)
			if c := l.Append(nil); c != api.Down {
				t.Fatalf("formatted: %d", c)
			}
			checkDisk(t, p, d, "")
			checkCounts(t, p, l, 13)
		}
	}
}

// Two logs on one disk are apart.
func TestLogsBesideOneAnother(t *testing.T) {
	d, _ := block.New(6, 32)
	var one, other *wal.Log
	one, _, _ = wal.Open(d, 0, 3)
	other, _, _ = wal.Open(d, 3, 3)
	var ones, others []string
	for n := range 20 {
		s := fill(n, n%9)
		if one.Append([]byte(s)) == api.Fine {
			ones = append(ones, s)
		}
		if other.Append([]byte("x"+s)) == api.Fine {
			others = append(others, "x"+s)
		}
	}
	d.Crash(0, 0)
	openClean(t, place{6, 32, 0, 3}, d, ones...)
	openClean(t, place{6, 32, 3, 3}, d, others...)
	if len(ones) < 5 || len(others) < 5 {
		t.Errorf("%d and %d records", len(ones), len(others))
	}
	wal.Format(d, 0, 3)
	openClean(t, place{6, 32, 3, 3}, d, others...)
}

// R4: nothing is shared.

func TestWhatIsHandedInIsNotLookedAtLater(t *testing.T) {
	p := place{4, 32, 1, 3}
	d, l := fresh(t, p)
	var row []string
	for n := range 4 {
		s := fill(n, 3+n*3)
		b := roomy(s)
		l.Append(b)
		checkSame(t, b, s)
		for i := range b {
			b[i] ^= 0x55
		}
		row = append(row, s)
		checkDisk(t, p, d, frames(row...))
	}
	openClean(t, p, d, row...)
}

func TestWhatIsHandedOutSharesNothing(t *testing.T) {
	p := place{4, 32, 1, 3}
	row := []string{"abc", "", fill(1, 30), "x"}
	d := lay(t, p, image(p, frames(row...)))
	l, records, _ := wal.Open(d, p.from, p.n)
	for i, b := range records {
		for n := range b {
			b[n] ^= 0x55
		}
		_ = append(b, "spoilt"...)
		for k, s := range texts(records[i+1:]) {
			if s != row[i+1+k] {
				t.Fatalf("record %d is %q", i+1+k, s)
			}
		}
	}
	clear(records)
	checkDisk(t, p, d, frames(row...))
	_, held, _ := wal.Open(d, p.from, p.n)
	if c := l.Append([]byte("more")); c != api.Fine {
		t.Fatal(c)
	}
	checkDisk(t, p, d, frames(append(row, "more")...))
	wal.Format(d, p.from, p.n)
	if !slices.Equal(texts(held), row) {
		t.Errorf("what was handed out is %q", texts(held))
	}
}

// All of it: whatever is done, in any order, the records are those that were appended since the region was formatted, and the one that was under way, or not.
func TestAnyDeeds(t *testing.T) {
	r := rand.New(rand.NewSource(103))
	for range 600 {
		size := 32 + r.Intn(20)
		p := place{blocks: 1 + r.Intn(7), size: size}
		p.from = r.Intn(p.blocks)
		p.n = 1 + r.Intn(p.blocks-p.from)
		d, l := fresh(t, p)
		row := []string{}
		for range 40 {
			if r.Intn(3) == 0 {
				d.Fuse(r.Intn(9) - 1)
			}
			s := fill(r.Intn(200), r.Intn(2*size))
			if r.Intn(2) == 0 {
				s = s[:r.Intn(min(len(s)+1, 8))]
			}
			more := append(slices.Clone(row), s)
			switch c := l.Append([]byte(s)); {
			case len(frames(more...)) > p.length() && c == api.Full:
			case len(frames(more...)) <= p.length() && c == api.Fine:
				row = more
			case len(frames(more...)) <= p.length() && c == api.Down && d.Dark():
				d.Crash(r.Intn(6)-1, r.Intn(size+2))
				l, row = opened(t, p, d, r, row, more)
			default:
				t.Fatalf("%v: a record of %d bytes behind %d: %d", p, len(s), len(row), c)
			}
			checkCounts(t, p, l, len(frames(row...)))
			checkBeside(t, p, d)
			if r.Intn(15) == 0 {
				d.Crash(0, 0)
				if c := wal.Format(d, p.from, p.n); c != api.Fine {
					t.Fatal(c)
				}
				row = []string{}
				l = openClean(t, p, d)
			}
			if r.Intn(6) == 0 {
				l = openClean(t, p, d, row...)
			}
		}
	}
}

// opened opens behind a crash, maybe with more crashes under way, and tells which records there are.
func opened(t *testing.T, p place, d *block.Disk, r *rand.Rand, row, more []string) (*wal.Log, []string) {
	t.Helper()
	for range 20 {
		d.Fuse(r.Intn(6))
		l, records, c := wal.Open(d, p.from, p.n)
		if c == api.Fine && !slices.Equal(texts(records), row) && !slices.Equal(texts(records), more) {
			t.Fatalf("%v: %q, neither %q nor %q", p, texts(records), row, more)
		}
		if c == api.Fine {
			return l, append([]string{}, texts(records)...)
		}
		if c != api.Down || !d.Dark() {
			t.Fatal(c)
		}
		d.Crash(r.Intn(6)-1, r.Intn(p.size+2))
	}
	l, records, c := wal.Open(d, p.from, p.n)
	if c != api.Fine {
		t.Fatal(c)
	}
	return l, append([]string{}, texts(records)...)
}

// R1: a nil log, and one that Open didn't make, which has no room.

func TestNilLog(t *testing.T) {
	var l *wal.Log
	for _, b := range [][]byte{nil, {}, []byte("a"), make([]byte, 600)} {
		if c := l.Append(b); c != api.Nil {
			t.Errorf("Append: %d", c)
		}
	}
	if l.Used() != 0 || l.Room() != 0 {
		t.Errorf("%d used, room for %d", l.Used(), l.Room())
	}
}

func TestZeroLog(t *testing.T) {
	l := &wal.Log{}
	for _, b := range [][]byte{nil, {}, []byte("a"), make([]byte, 600)} {
		if c := l.Append(b); c != api.Full {
			t.Errorf("Append: %d", c)
		}
	}
	if l.Used() != 0 || l.Room() != 0 {
		t.Errorf("%d used, room for %d", l.Used(), l.Room())
	}
}

// Regions of any bytes are opened, and are clean then.
func TestOpenOfAnyBytes(t *testing.T) {
	r := rand.New(rand.NewSource(101))
	pieces := []string{"\xF5", "\x5F", zeros(3), framed(""), framed("ab"), framed(fill(1, 30)), framed(fill(2, 40))[:30], fill(3, 5)}
	for range 3000 {
		p := place{6, 32, 1, 1 + r.Intn(4)}
		var all strings.Builder
		for all.Len() < p.length() {
			all.WriteString(pieces[r.Intn(len(pieces))])
		}
		region := all.String()[:p.length()]
		row := recordsOf(region)
		d := lay(t, p, image(p, region))
		open(t, p, d, row...)
		checkDisk(t, p, d, frames(row...))
		openClean(t, p, d, row...)
	}
}

// recordsOf a region, told apart from the program: as long as the frame of so many bytes is what stands there.
func recordsOf(region string) []string {
	row := []string{}
	for {
		n := -1
		for k := 0; k+around <= len(region); k++ {
			if strings.HasPrefix(region, framed(region[around-1:around-1+k])) {
				n = k
				break
			}
		}
		if n < 0 {
			return row
		}
		row = append(row, region[around-1:around-1+n])
		region = region[n+around:]
	}
}

// A record's bytes may look like anything.
func TestRecordsThatLookLikeFrames(t *testing.T) {
	p := place{8, 64, 1, 6}
	for _, row := range [][]string{
		{framed(""), framed("a"), framed(framed(""))},
		{"\xF5", "\xF5\x00\x00\x00\x00\x00\x00\x00\x00\x5F", "\x5F"},
		{zeros(1), zeros(40), zeros(100)},
		{strings.Repeat("\xF5", 30), strings.Repeat("\x5F", 30), strings.Repeat("\xFF", 30)},
	} {
		d, l := fresh(t, p)
		for _, s := range row {
			if c := l.Append([]byte(s)); c != api.Fine {
				t.Fatal(c)
			}
		}
		d.Crash(0, 0)
		openClean(t, p, d, row...)
	}
}
