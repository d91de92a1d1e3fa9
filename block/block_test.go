package block_test

import (
	"bytes"
	"fmt"
	"math"
	"math/rand"
	"slices"
	"strings"
	"testing"

	"firebell/api"
	"firebell/block"
)

// written is a write in the model: all bytes that its block comes to have.
type written struct {
	i int
	s string
}

// model is what the chapter says of a disk. What is seen isn't held: it is what lasts, with all that waits done.
type model struct {
	blocks, size int
	lasts        []string
	waits        []written
	fuse         *burning
	dark         bool
	deeds        int
}

// burning is a fuse: how many deeds it lets be done.
type burning struct{ n int }

func newModel(blocks, size int) *model {
	m := &model{blocks: blocks, size: size}
	for range blocks {
		m.lasts = append(m.lasts, strings.Repeat("\x00", size))
	}
	return m
}

// whole is the bytes that a block has behind a write.
func (m *model) whole(s string) string {
	return s + strings.Repeat("\x00", m.size-len(s))
}

func (m *model) has(i int) bool {
	return 0 <= i && i < m.blocks
}

// done: may a deed be done, by the fuse?
func (m *model) done() bool {
	if m.fuse != nil && m.fuse.n == 0 {
		m.dark = true
		return false
	}
	if m.fuse != nil {
		m.fuse.n--
	}
	m.deeds++
	return true
}

func (m *model) write(i int, s string) api.Code {
	if m.dark {
		return api.Down
	}
	if !m.has(i) || len(s) > m.size {
		return api.Arg
	}
	if !m.done() {
		return api.Down
	}
	m.waits = append(m.waits, written{i, m.whole(s)})
	return api.Fine
}

func (m *model) sync() api.Code {
	if m.dark || !m.done() {
		return api.Down
	}
	m.lasts, m.waits = m.seen(len(m.waits), 0), nil
	return api.Fine
}

// seen is what lasts with the first keep that wait done, and torn bytes of the next one.
func (m *model) seen(keep, torn int) []string {
	l := slices.Clone(m.lasts)
	for n, w := range m.waits {
		if n < keep {
			l[w.i] = w.s
		}
		if n == keep {
			l[w.i] = w.s[:torn] + l[w.i][torn:]
		}
	}
	return l
}

func (m *model) burn(n int) {
	m.fuse = nil
	if n >= 0 {
		m.fuse = &burning{n}
	}
}

func (m *model) crash(keep, torn int) {
	if keep < 0 {
		keep = 0
	}
	if keep > len(m.waits) {
		keep = len(m.waits)
	}
	if torn < 0 {
		torn = 0
	}
	if torn > m.size {
		torn = m.size
	}
	m.lasts, m.waits = m.seen(keep, torn), nil
	m.fuse, m.dark = nil, false
}

func (m *model) read(i int) (string, api.Code) {
	if m.dark {
		return "", api.Down
	}
	if !m.has(i) {
		return "", api.Arg
	}
	return m.seen(len(m.waits), 0)[i], api.Fine
}

// both is a disk, and what the chapter says of it.
type both struct {
	t *testing.T
	d *block.Disk
	m *model
	// log is what was done, for what a test tells.
	log []string
}

func newBoth(t *testing.T, blocks, size int) *both {
	t.Helper()
	x := &both{t: t, d: newDisk(t, blocks, size), m: newModel(blocks, size)}
	x.say("New(%d, %d)", blocks, size)
	x.check()
	return x
}

func newDisk(t *testing.T, blocks, size int) *block.Disk {
	t.Helper()
	d, c := block.New(blocks, size)
	if d == nil || c != api.Fine {
		t.Fatalf("New(%d, %d): %v, %d", blocks, size, d, c)
	}
	return d
}

func (x *both) say(form string, a ...any) {
	x.log = append(x.log, fmt.Sprintf(form, a...))
	if len(x.log) > 30 {
		x.log = x.log[1:]
	}
}

func (x *both) fail(form string, a ...any) {
	x.t.Helper()
	x.t.Fatalf("%s\nbehind %s", fmt.Sprintf(form, a...), strings.Join(x.log, ", "))
}

// checkCounts holds all that a disk tells without its blocks against the chapter.
func (x *both) checkCounts() {
	x.t.Helper()
	d, m := x.d, x.m
	if d.Dark() != m.dark {
		x.fail("Dark: %v, not %v", d.Dark(), m.dark)
	}
	if d.Blocks() != m.blocks || d.Size() != m.size {
		x.fail("%d blocks of %d bytes, not %d of %d", d.Blocks(), d.Size(), m.blocks, m.size)
	}
	if d.Deeds() != m.deeds {
		x.fail("Deeds: %d, not %d", d.Deeds(), m.deeds)
	}
	if d.Waits() != len(m.waits) {
		x.fail("Waits: %d, not %d", d.Waits(), len(m.waits))
	}
}

// check holds all that a disk tells, of blocks that aren't there, too, against the chapter.
func (x *both) check() {
	x.t.Helper()
	x.checkCounts()
	seen := x.m.seen(len(x.m.waits), 0)
	for i := -1; i <= x.m.blocks; i++ {
		want, code := "", api.Arg
		if x.m.has(i) {
			want, code = seen[i], api.Fine
		}
		if x.m.dark {
			want, code = "", api.Down
		}
		if b, c := x.d.Read(i); string(b) != want || c != code {
			x.fail("Read(%d): %q, %d, not %q, %d", i, b, c, want, code)
		}
	}
	// A read is no deed.
	x.checkCounts()
}

func (x *both) write(i int, s string) api.Code {
	x.t.Helper()
	x.say("Write(%d, %q)", i, s)
	b := roomy(s)
	c, want := x.d.Write(i, b), x.m.write(i, s)
	if c != want {
		x.fail("Write: %d, not %d", c, want)
	}
	checkSame(x.t, b, s)
	for n := range b {
		b[n] ^= 0x55
	}
	return c
}

func (x *both) sync() api.Code {
	x.t.Helper()
	x.say("Sync()")
	c, want := x.d.Sync(), x.m.sync()
	if c != want {
		x.fail("Sync: %d, not %d", c, want)
	}
	return c
}

func (x *both) fuse(n int) {
	x.say("Fuse(%d)", n)
	x.d.Fuse(n)
	x.m.burn(n)
}

func (x *both) crash(keep, torn int) {
	x.say("Crash(%d, %d)", keep, torn)
	x.d.Crash(keep, torn)
	x.m.crash(keep, torn)
}

func (x *both) read(i int) {
	x.t.Helper()
	b, c := x.d.Read(i)
	want, code := x.m.read(i)
	if string(b) != want || c != code {
		x.fail("Read(%d): %q, %d, not %q, %d", i, b, c, want, code)
	}
}

// roomy is bytes with room behind them, all of it AA.
func roomy(s string) []byte {
	b := append([]byte(s), bytes.Repeat([]byte{0xAA}, 600)...)
	return b[:len(s)]
}

// checkSame: what was handed in by roomy stands as it was, and the room behind it.
func checkSame(t *testing.T, b []byte, s string) {
	t.Helper()
	room := b[len(b) : len(s)+600]
	if string(b) != s || bytes.Count(room, []byte{0xAA}) != len(room) {
		t.Fatalf("what was handed in is %q, not %q, with %x behind", b, s, room)
	}
}

// fill is so many bytes, none of them 0, that are unlike those of another seed.
func fill(seed, n int) string {
	b := make([]byte, n)
	for i := range b {
		b[i] = byte(1 + (seed*31+i*7)%255)
	}
	return string(b)
}

// sizes are those that New can make: the least, the greatest, and some between.
func sizes() [][2]int {
	return [][2]int{{1, 32}, {1, 512}, {400, 32}, {400, 512}, {2, 33}, {3, 511}, {399, 100}, {7, 64}}
}

// wrongBlocks of a disk of so many.
func wrongBlocks(blocks int) []int {
	return []int{-1, blocks, -2, blocks + 1, -blocks, api.MaxBlocks, api.MaxBlocks + 1, math.MinInt, math.MinInt + 1, math.MaxInt, math.MaxInt - 1, 1 << 32, 1<<63 - 1<<32, -1 << 32, 1 << 58, 1 << 59, 1 << 55}
}

// P9.1: New.

func TestNew(t *testing.T) {
	for _, l := range sizes() {
		x := newBoth(t, l[0], l[1])
		zeros := strings.Repeat("\x00", l[1])
		for i := range l[0] {
			if b, c := x.d.Read(i); string(b) != zeros || c != api.Fine {
				t.Fatalf("New(%d, %d): block %d is %q, %d", l[0], l[1], i, b, c)
			}
		}
		if x.d.Dark() || x.d.Deeds() != 0 || x.d.Waits() != 0 {
			t.Fatalf("New(%d, %d): %v, %d deeds, %d wait", l[0], l[1], x.d.Dark(), x.d.Deeds(), x.d.Waits())
		}
	}
	for blocks := 1; blocks <= 400; blocks++ {
		if d := newDisk(t, blocks, 40); d.Blocks() != blocks || d.Size() != 40 {
			t.Errorf("%d blocks of %d, not %d of 40", d.Blocks(), d.Size(), blocks)
		}
	}
	for size := 32; size <= 512; size++ {
		if d := newDisk(t, 3, size); d.Blocks() != 3 || d.Size() != size {
			t.Errorf("%d blocks of %d, not 3 of %d", d.Blocks(), d.Size(), size)
		}
	}
}

func TestNewOfWhatCannotBe(t *testing.T) {
	wrong := func(blocks, size int) {
		t.Helper()
		if d, c := block.New(blocks, size); d != nil || c != api.Arg {
			t.Errorf("New(%d, %d): %v, %d", blocks, size, d, c)
		}
	}
	ends := []int{0, -1, math.MinInt, math.MaxInt, math.MinInt + 1, math.MaxInt - 1, 1 << 32, 1<<32 + 32, -1 << 32}
	noBlocks := append([]int{401, 402, 512, 1000, -400, -32}, ends...)
	noSizes := append([]int{31, 513, 1, 16, 514, 1024, -32, -512}, ends...)
	for _, blocks := range noBlocks {
		for _, size := range []int{32, 33, 100, 400, 512} {
			wrong(blocks, size)
		}
		for _, size := range noSizes {
			wrong(blocks, size)
		}
	}
	for _, size := range noSizes {
		for _, blocks := range []int{1, 2, 32, 100, 400} {
			wrong(blocks, size)
		}
	}
}

// P9.1: Write and Read.

func TestWriteOfEachLength(t *testing.T) {
	for _, l := range sizes() {
		blocks, size := l[0], l[1]
		x := newBoth(t, blocks, size)
		for _, n := range []int{0, 1, 2, 31, 32, size - 1, size, 0, size, 1} {
			if n > size {
				continue
			}
			for _, i := range []int{0, blocks / 2, blocks - 1} {
				if c := x.write(i, fill(n+i, n)); c != api.Fine {
					t.Fatalf("Write of %d bytes: %d", n, c)
				}
				x.read(i)
			}
			x.check()
		}
	}
	x := newBoth(t, 2, 32)
	for n := range 33 {
		x.write(1, fill(n, 32))
		x.write(1, fill(n, n))
		x.check()
	}
	for n := range 33 {
		x.write(0, strings.Repeat("\x00", n))
		x.write(0, fill(n, 32-n))
		x.check()
	}
}

func TestShorterWritesHaveZerosBehind(t *testing.T) {
	for _, sync := range []bool{false, true} {
		d := newDisk(t, 3, 32)
		for i := range 3 {
			d.Write(i, []byte(fill(i, 32)))
		}
		if sync {
			d.Sync()
		}
		for _, s := range []string{"abc", "x", ""} {
			if c := d.Write(1, []byte(s)); c != api.Fine {
				t.Fatal(c)
			}
			for i, want := range []string{fill(0, 32), s + strings.Repeat("\x00", 32-len(s)), fill(2, 32)} {
				if b, c := d.Read(i); string(b) != want || c != api.Fine {
					t.Errorf("behind %q block %d is %q, %d", s, i, b, c)
				}
			}
		}
	}
}

func TestWriteOfNothingIsADeed(t *testing.T) {
	for _, b := range [][]byte{nil, {}} {
		d := newDisk(t, 2, 32)
		d.Write(1, []byte("abc"))
		if c := d.Write(1, b); c != api.Fine || d.Deeds() != 2 || d.Waits() != 2 {
			t.Errorf("%d, %d deeds, %d wait", c, d.Deeds(), d.Waits())
		}
		if got, c := d.Read(1); string(got) != strings.Repeat("\x00", 32) || c != api.Fine {
			t.Errorf("%q, %d", got, c)
		}
		d.Crash(1, 1)
		if got, c := d.Read(1); string(got) != "\x00bc"+strings.Repeat("\x00", 29) || c != api.Fine {
			t.Errorf("%q, %d", got, c)
		}
	}
}

func TestBlocksAreApart(t *testing.T) {
	for _, l := range sizes() {
		x := newBoth(t, l[0], l[1])
		for i := range l[0] {
			x.write(i, fill(i, l[1]))
		}
		x.check()
		x.write(l[0]-1, "")
		x.write(0, "a")
		x.check()
		x.sync()
		x.check()
		x.write(l[0]/2, fill(9, l[1]))
		x.crash(0, l[1]/2)
		x.check()
	}
}

// What is refused changes nothing, and is no deed.

func TestWrongBlocksAndLengths(t *testing.T) {
	for _, l := range sizes() {
		blocks, size := l[0], l[1]
		x := newBoth(t, blocks, size)
		x.write(0, "waits")
		for _, i := range wrongBlocks(blocks) {
			if i >= 0 && i < blocks {
				continue
			}
			for _, s := range []string{"", "a", fill(1, size), fill(1, size+1)} {
				if c := x.write(i, s); c != api.Arg {
					t.Fatalf("Write(%d) of %d bytes: %d", i, len(s), c)
				}
			}
			if c := x.d.Write(i, nil); c != api.Arg {
				t.Fatalf("Write(%d, nil): %d", i, c)
			}
			x.read(i)
			x.checkCounts()
		}
		for _, i := range []int{0, blocks / 2, blocks - 1} {
			for _, n := range []int{size + 1, size + 2, 2 * size, 4096} {
				if c := x.write(i, fill(n, n)); c != api.Arg {
					t.Fatalf("Write(%d) of %d bytes: %d", i, n, c)
				}
			}
		}
		x.check()
		if x.d.Deeds() != 1 || x.d.Waits() != 1 {
			t.Fatalf("%d deeds, %d wait", x.d.Deeds(), x.d.Waits())
		}
	}
}

func TestRefusedOnesBesideAFuse(t *testing.T) {
	for n := range 4 {
		x := newBoth(t, 2, 32)
		x.fuse(n)
		for range 5 {
			x.write(2, "a")
			x.write(-1, "a")
			x.write(0, fill(0, 33))
			x.read(0)
			x.read(2)
			x.check()
		}
		for range n {
			x.write(2, "a")
			if c := x.write(1, "b"); c != api.Fine {
				t.Fatalf("a fuse of %d: %d", n, c)
			}
			x.check()
		}
		// A wrong block is told ahead of a fuse that is over, and the disk stays light.
		if c := x.write(2, "a"); c != api.Arg || x.d.Dark() {
			t.Fatalf("a wrong block: %d, dark is %v", c, x.d.Dark())
		}
		if c := x.write(-1, ""); c != api.Arg || x.d.Dark() {
			t.Fatalf("a wrong block: %d, dark is %v", c, x.d.Dark())
		}
		if c := x.write(0, fill(0, 33)); c != api.Arg || x.d.Dark() {
			t.Fatalf("too many bytes: %d, dark is %v", c, x.d.Dark())
		}
		if b, c := x.d.Read(0); len(b) != 32 || c != api.Fine {
			t.Fatalf("a read at a fuse that is over: %q, %d", b, c)
		}
		x.check()
		if c := x.write(0, "c"); c != api.Down || !x.d.Dark() {
			t.Fatalf("a fuse that is over: %d, dark is %v", c, x.d.Dark())
		}
		// A dark disk is told ahead of a wrong block.
		for _, i := range append(wrongBlocks(2), 0, 1) {
			for _, s := range []string{"", "a", fill(0, 32), fill(0, 33)} {
				if c := x.write(i, s); c != api.Down {
					t.Fatalf("Write(%d) of a dark disk: %d", i, c)
				}
			}
			if b, c := x.d.Read(i); len(b) != 0 || c != api.Down {
				t.Fatalf("Read(%d) of a dark disk: %q, %d", i, b, c)
			}
		}
		if c := x.sync(); c != api.Down {
			t.Fatalf("Sync of a dark disk: %d", c)
		}
		x.check()
	}
}

// R4: nothing is shared.

func TestWhatIsHandedInIsNotLookedAtLater(t *testing.T) {
	for _, n := range []int{1, 16, 32} {
		for _, way := range []string{"seen", "synced", "kept", "torn"} {
			d := newDisk(t, 2, 32)
			s := fill(n, n)
			b := roomy(s)
			d.Write(1, b)
			checkSame(t, b, s)
			for i := range b {
				b[i] ^= 0x55
			}
			turned := string(b)
			switch way {
			case "synced":
				d.Sync()
				d.Crash(0, 0)
			case "kept":
				d.Crash(1, 0)
			case "torn":
				d.Crash(0, 32)
			}
			if got, c := d.Read(1); string(got) != s+strings.Repeat("\x00", 32-n) || c != api.Fine {
				t.Errorf("%s: %q, %d, not %q", way, got, c, s)
			}
			checkSame(t, b, turned)
		}
	}
}

func TestWhatIsHandedOutSharesNothing(t *testing.T) {
	spoil := func(b []byte) {
		for i := range b {
			b[i] ^= 0x55
		}
		_ = append(b, bytes.Repeat([]byte{0x55}, 64)...)
	}
	d := newDisk(t, 3, 32)
	check := func(when string) {
		t.Helper()
		first, _ := d.Read(1)
		second, _ := d.Read(1)
		spoil(first)
		for i, want := range []string{strings.Repeat("\x00", 32), fill(3, 32), strings.Repeat("\x00", 32)} {
			got, c := d.Read(i)
			if string(got) != want || c != api.Fine {
				t.Errorf("%s: block %d is %q, %d", when, i, got, c)
			}
			spoil(got)
		}
		if string(second) != fill(3, 32) {
			t.Errorf("%s: another read's bytes are %q", when, second)
		}
	}
	d.Write(1, []byte(fill(3, 32)))
	check("waiting")
	d.Sync()
	check("synced")
	d.Crash(0, 0)
	check("behind a crash")
	d.Write(1, []byte(fill(4, 32)))
	old, _ := d.Read(1)
	d.Write(1, []byte(fill(3, 32)))
	check("written anew")
	if string(old) != fill(4, 32) {
		t.Errorf("what was read ahead of a write is %q", old)
	}
	d.Crash(2, 0)
	check("behind another crash")
	held, _ := d.Read(1)
	d.Write(1, []byte(fill(5, 32)))
	d.Crash(0, 7)
	if string(held) != fill(3, 32) {
		t.Errorf("what was read ahead of a crash is %q", held)
	}
}

func TestDisksAreApart(t *testing.T) {
	one, other := newDisk(t, 2, 32), newDisk(t, 2, 32)
	one.Write(0, []byte("abc"))
	one.Sync()
	one.Write(1, []byte("abc"))
	one.Fuse(0)
	one.Sync()
	if !one.Dark() || other.Dark() || other.Deeds() != 0 || other.Waits() != 0 {
		t.Error("the other one is changed")
	}
	for i := range 2 {
		if b, c := other.Read(i); string(b) != strings.Repeat("\x00", 32) || c != api.Fine {
			t.Errorf("the other one's block %d is %q, %d", i, b, c)
		}
	}
}

// P9.1: Sync, and P9.2: Deeds and Waits.

func TestDeedsAndWaits(t *testing.T) {
	d := newDisk(t, 3, 32)
	counts := func(deeds, waits int) {
		t.Helper()
		if d.Deeds() != deeds || d.Waits() != waits {
			t.Fatalf("%d deeds, %d wait, not %d and %d", d.Deeds(), d.Waits(), deeds, waits)
		}
	}
	counts(0, 0)
	d.Sync()
	counts(1, 0)
	d.Sync()
	counts(2, 0)
	d.Write(0, []byte("a"))
	counts(3, 1)
	d.Write(0, []byte("a"))
	counts(4, 2)
	d.Write(2, nil)
	counts(5, 3)
	d.Read(0)
	d.Read(9)
	d.Write(3, nil)
	d.Write(0, make([]byte, 33))
	counts(5, 3)
	d.Sync()
	counts(6, 0)
	d.Write(1, []byte("b"))
	counts(7, 1)
	d.Crash(0, 0)
	counts(7, 0)
	d.Write(1, []byte("b"))
	d.Write(1, []byte("c"))
	d.Fuse(1)
	counts(9, 2)
	d.Write(1, []byte("d"))
	counts(10, 3)
	d.Write(1, []byte("e"))
	counts(10, 3)
	d.Write(1, []byte("e"))
	d.Sync()
	d.Read(1)
	counts(10, 3)
	d.Crash(9, 9)
	counts(10, 0)
	d.Sync()
	counts(11, 0)
}

func TestReadsBesideASync(t *testing.T) {
	x := newBoth(t, 3, 32)
	x.write(0, "abc")
	x.write(2, fill(1, 32))
	x.check()
	x.sync()
	x.check()
	x.sync()
	x.check()
	x.write(0, "x")
	x.check()
	x.sync()
	x.check()
	x.crash(0, 0)
	x.check()
	x.crash(9, 9)
	x.check()
}

func TestSyncThatIsRefusedLetsNothingLast(t *testing.T) {
	for _, ahead := range []bool{false, true} {
		x := newBoth(t, 2, 32)
		x.write(0, "old")
		x.sync()
		x.write(0, "new")
		x.write(1, "more")
		x.fuse(0)
		if ahead {
			// It goes dark at a write, and the sync behind it does nothing.
			x.write(0, "newest")
		}
		if c := x.sync(); c != api.Down || x.d.Waits() != 2 {
			t.Fatalf("%d, %d wait", c, x.d.Waits())
		}
		x.check()
		x.crash(0, 0)
		x.check()
		if b, _ := x.d.Read(0); string(b[:3]) != "old" {
			t.Errorf("%q lasts", b)
		}
	}
}

// P9.2: Fuse.

func TestFuses(t *testing.T) {
	for n := range 12 {
		for syncs := range 12 {
			x := newBoth(t, 3, 32)
			x.write(1, "ahead")
			x.fuse(n)
			x.check()
			for deed := range n {
				c := api.Fine
				if deed == syncs {
					c = x.sync()
				} else {
					c = x.write(deed%3, fill(deed, 5))
				}
				if c != api.Fine || x.d.Dark() {
					t.Fatalf("a fuse of %d, deed %d: %d, dark is %v", n, deed, c, x.d.Dark())
				}
				x.check()
			}
			if x.d.Dark() {
				t.Fatalf("a fuse of %d: dark ahead of its deed", n)
			}
			c := api.Fine
			if syncs%2 == 0 {
				c = x.sync()
			} else {
				c = x.write(0, "late")
			}
			if c != api.Down || !x.d.Dark() {
				t.Fatalf("a fuse of %d, one more: %d, dark is %v", n, c, x.d.Dark())
			}
			x.check()
			for range 3 {
				x.write(0, "later")
				x.sync()
				x.check()
			}
			x.crash(syncs-1, 3)
			x.check()
			// No fuse is left behind a crash.
			for range n + 3 {
				x.write(0, "again")
				x.sync()
			}
			x.check()
		}
	}
}

func TestFusesBelowZeroAreNone(t *testing.T) {
	for _, n := range []int{-1, -2, -3, math.MinInt, math.MinInt + 1, -1 << 32} {
		for _, ahead := range []int{-1, 0, 1, 2, 5, math.MaxInt} {
			x := newBoth(t, 2, 32)
			x.fuse(ahead)
			if ahead > 1 {
				x.write(0, "one deed of it")
			}
			x.fuse(n)
			for deed := range 20 {
				if x.write(1, fill(deed, 3)) != api.Fine || x.sync() != api.Fine {
					t.Fatalf("a fuse of %d in the place of one of %d: deed %d", n, ahead, deed)
				}
			}
			x.check()
		}
	}
}

func TestFusesInThePlaceOfOthers(t *testing.T) {
	for _, old := range []int{-1, 0, 1, 3, 7, math.MaxInt} {
		for n := range 6 {
			x := newBoth(t, 2, 32)
			x.fuse(old)
			x.fuse(n)
			for range n {
				if c := x.write(0, "a"); c != api.Fine {
					t.Fatalf("a fuse of %d in the place of one of %d: %d", n, old, c)
				}
			}
			x.fuse(1)
			if x.sync() != api.Fine || x.d.Dark() || x.sync() != api.Down || !x.d.Dark() {
				t.Fatalf("a fuse of 1 in the place of one of %d", n)
			}
			x.check()
		}
	}
}

func TestFusesOfMany(t *testing.T) {
	for _, n := range []int{1000, math.MaxInt, math.MaxInt - 1, 1 << 32, 1<<32 + 1} {
		x := newBoth(t, 2, 32)
		x.fuse(n)
		for deed := range 1000 {
			if c := x.write(deed%2, "a"); c != api.Fine {
				t.Fatalf("a fuse of %d, deed %d: %d", n, deed, c)
			}
		}
		if c := x.sync(); (c == api.Down) != (n == 1000) {
			t.Fatalf("a fuse of %d, one more: %d", n, c)
		}
		x.check()
	}
}

func TestFusesOnADarkDisk(t *testing.T) {
	for _, n := range []int{-1, 0, 1, 5, math.MinInt, math.MaxInt} {
		x := newBoth(t, 2, 32)
		x.write(0, "a")
		x.fuse(0)
		x.sync()
		x.fuse(n)
		if !x.d.Dark() {
			t.Fatalf("a fuse of %d: it isn't dark any more", n)
		}
		x.check()
		if x.write(0, "b") != api.Down || x.sync() != api.Down || x.write(9, "b") != api.Down {
			t.Fatalf("a fuse of %d: a deed of a dark disk is done", n)
		}
		x.check()
		x.crash(0, 0)
		// The crash takes the fuse that was set on the dark disk, too.
		for range 8 {
			if x.write(1, "c") != api.Fine || x.sync() != api.Fine {
				t.Fatalf("a fuse of %d outlasts a crash", n)
			}
		}
		x.check()
	}
}

func TestCrashTakesABurningFuse(t *testing.T) {
	for n := range 4 {
		x := newBoth(t, 2, 32)
		x.fuse(n)
		for range n {
			x.sync()
		}
		x.crash(0, 0)
		for range 8 {
			if x.write(1, "c") != api.Fine || x.sync() != api.Fine {
				t.Fatalf("a fuse of %d outlasts a crash", n)
			}
		}
		x.fuse(2)
		if x.sync() != api.Fine || x.sync() != api.Fine || x.sync() != api.Down {
			t.Fatal("a fuse behind a crash")
		}
		x.check()
	}
}

// P9.2: Crash.

// ends of keep and torn, beside those that are told.
func ends(l ...int) []int {
	return append(l, -1, -2, math.MinInt, math.MinInt+1, 1000, 1<<32, 1<<32+1, math.MaxInt, math.MaxInt-1)
}

// deedsAhead does, on a new disk, what lasts, and then the writes.
func deedsAhead(t *testing.T, writes []written) *both {
	t.Helper()
	x := newBoth(t, 3, 32)
	x.write(0, fill(100, 32))
	x.write(1, fill(101, 20))
	x.sync()
	for _, w := range writes {
		x.write(w.i, w.s)
	}
	return x
}

// rowsOfWrites that wait: none, one, more, of one block or of others, of all lengths.
func rowsOfWrites() [][]written {
	return [][]written{
		{},
		{{0, "abc"}},
		{{1, ""}},
		{{2, fill(1, 32)}},
		{{0, fill(1, 32)}, {0, "abc"}},
		{{0, "abc"}, {0, fill(1, 32)}, {0, ""}, {0, "z"}},
		{{0, "abc"}, {1, "def"}, {2, "ghi"}},
		{{0, fill(1, 31)}, {1, fill(2, 32)}, {0, "x"}, {2, fill(3, 17)}, {1, "y"}, {0, fill(4, 32)}},
	}
}

func TestCrashes(t *testing.T) {
	for _, row := range rowsOfWrites() {
		var keeps []int
		for n := range len(row) + 3 {
			keeps = append(keeps, n)
		}
		for _, keep := range ends(keeps...) {
			for _, torn := range ends(0, 1, 2, 3, 4, 16, 20, 31, 32, 33, 34, 64) {
				for _, dark := range []bool{false, true} {
					x := deedsAhead(t, row)
					if dark {
						x.fuse(0)
						x.write(2, "never")
					}
					x.crash(keep, torn)
					x.check()
					if x.d.Waits() != 0 || x.d.Dark() {
						t.Fatalf("behind a crash: %d wait, dark is %v", x.d.Waits(), x.d.Dark())
					}
					// What came to last does, and what was lost is.
					x.crash(0, 0)
					x.check()
					x.crash(99, 99)
					x.check()
					x.write(0, "on")
					x.sync()
					x.check()
				}
			}
		}
	}
}

func TestCrashesOfBigDisks(t *testing.T) {
	for _, l := range sizes() {
		blocks, size := l[0], l[1]
		for _, torn := range ends(0, 1, size-1, size, size+1) {
			x := newBoth(t, blocks, size)
			for i := range blocks {
				x.write(i, fill(i, size))
			}
			x.sync()
			x.write(blocks-1, fill(7, size))
			x.write(0, fill(8, size/2))
			x.write(blocks-1, fill(9, size))
			x.crash(2, torn)
			x.check()
			x.write(0, fill(10, size))
			x.write(blocks-1, "")
			x.crash(0, torn)
			x.check()
		}
	}
}

func TestCrashWhereNothingWaits(t *testing.T) {
	for _, keep := range ends(0, 1) {
		for _, torn := range ends(0, 1, 32) {
			x := newBoth(t, 2, 32)
			x.crash(keep, torn)
			x.check()
			x.write(1, "abc")
			x.sync()
			x.crash(keep, torn)
			x.check()
			x.fuse(0)
			x.sync()
			x.crash(keep, torn)
			x.check()
		}
	}
}

func TestCrashByHand(t *testing.T) {
	for _, l := range []struct {
		keep, torn int
		want       string
	}{
		{0, 0, "abc"}, {0, 1, "xbc"}, {0, 2, "xyc"}, {0, 3, "xyz"}, {0, 32, "xyz"}, {0, 33, "xyz"},
		{1, 0, "xyz"}, {1, 9, "xyz"}, {-1, 2, "xyc"}, {math.MinInt, 2, "xyc"}, {0, math.MinInt, "abc"},
		{math.MaxInt, math.MinInt, "xyz"}, {math.MinInt, math.MaxInt, "xyz"},
	} {
		d := newDisk(t, 1, 32)
		d.Write(0, []byte("abc"))
		d.Sync()
		d.Write(0, []byte("xyz"))
		d.Crash(l.keep, l.torn)
		if b, c := d.Read(0); string(b) != l.want+strings.Repeat("\x00", 29) || c != api.Fine {
			t.Errorf("Crash(%d, %d): %q, %d, not %q", l.keep, l.torn, b, c, l.want)
		}
	}
	// The 0 behind what was written is torn off, too.
	for torn, want := range []string{"abcdef", "xbcdef", "x\x00cdef", "x\x00\x00def"} {
		d := newDisk(t, 1, 32)
		d.Write(0, []byte("abcdef"))
		d.Sync()
		d.Write(0, []byte("x"))
		d.Crash(0, torn)
		if b, _ := d.Read(0); string(b) != want+strings.Repeat("\x00", 26) {
			t.Errorf("Crash(0, %d): %q, not %q", torn, b, want)
		}
	}
	// What is torn lies on what was kept ahead of it.
	d := newDisk(t, 1, 32)
	d.Write(0, []byte("abc"))
	d.Write(0, []byte("def"))
	d.Write(0, []byte("xyz"))
	d.Write(0, []byte("uvw"))
	d.Crash(2, 1)
	if b, _ := d.Read(0); string(b) != "xef"+strings.Repeat("\x00", 29) {
		t.Errorf("%q, not xef", b)
	}
}

// P9.3

// What was synced lasts, but for blocks written since.

func TestWhatWasSyncedLasts(t *testing.T) {
	r := rand.New(rand.NewSource(93))
	for range 300 {
		blocks, size := 1+r.Intn(6), 32+r.Intn(20)
		d := newDisk(t, blocks, size)
		for range r.Intn(10) {
			d.Write(r.Intn(blocks), []byte(fill(r.Intn(200), r.Intn(size+1))))
		}
		d.Sync()
		synced := readAll(t, d)
		since := map[int]int{}
		for range r.Intn(6) {
			i := r.Intn(blocks)
			d.Write(i, []byte(fill(r.Intn(200), r.Intn(size+1))))
			since[i]++
		}
		d.Crash(r.Intn(8)-1, r.Intn(size+3)-1)
		for i, s := range readAll(t, d) {
			if since[i] == 0 && s != synced[i] {
				t.Fatalf("block %d was %q, and is %q", i, synced[i], s)
			}
		}
	}
}

// readAll is what is seen of each block.
func readAll(t *testing.T, d *block.Disk) []string {
	t.Helper()
	var l []string
	for i := range d.Blocks() {
		b, c := d.Read(i)
		if c != api.Fine {
			t.Fatalf("Read(%d): %d", i, c)
		}
		l = append(l, string(b))
	}
	return l
}

// A crash that keeps all changes nothing that is seen; each one leaves what was seen behind some write, and a part of the next one.

func TestCrashesLeaveWhatWasSeen(t *testing.T) {
	r := rand.New(rand.NewSource(94))
	for range 500 {
		blocks, size := 1+r.Intn(4), 32+r.Intn(9)
		row := make([]written, r.Intn(7))
		for n := range row {
			row[n] = written{r.Intn(blocks), fill(r.Intn(200), r.Intn(size+1))}
		}
		for keep := range len(row) + 2 {
			torn := r.Intn(size + 1)
			d := newDisk(t, blocks, size)
			d.Write(0, []byte("lasts"))
			d.Sync()
			views := [][]string{readAll(t, d)}
			for _, w := range row {
				d.Write(w.i, []byte(w.s))
				views = append(views, readAll(t, d))
			}
			d.Crash(keep, torn)
			got := readAll(t, d)
			want := slices.Clone(views[min(keep, len(row))])
			if keep < len(row) {
				i := row[keep].i
				want[i] = views[keep+1][i][:torn] + want[i][torn:]
			}
			if !slices.Equal(got, want) {
				t.Fatalf("Crash(%d, %d) behind %v: %q, not %q", keep, torn, row, got, want)
			}
		}
	}
}

// All of it: whatever is done, in any order.

func TestAnyDeeds(t *testing.T) {
	r := rand.New(rand.NewSource(95))
	for range 400 {
		blocks, size := 1+r.Intn(5), 32+r.Intn(5)
		x := newBoth(t, blocks, size)
		for range 100 {
			switch r.Intn(20) {
			case 0, 1, 2, 3, 4, 5, 6, 7, 8:
				x.write(r.Intn(blocks), fill(r.Intn(200), r.Intn(size+1)))
			case 9:
				x.write(r.Intn(blocks+2)-1, fill(r.Intn(200), size-1+r.Intn(3)))
			case 10:
				x.d.Write(0, nil)
				x.m.write(0, "")
				x.say("Write(0, nil)")
			case 11, 12, 13:
				x.sync()
			case 14, 15:
				x.fuse(r.Intn(8) - 2)
			case 16, 17:
				x.crash(r.Intn(8)-2, r.Intn(size+6)-2)
			case 18:
				x.crash(ends()[r.Intn(9)], ends()[r.Intn(9)])
			case 19:
				x.read(r.Intn(blocks+2) - 1)
			}
			x.check()
		}
	}
}

// R1: a nil disk, and one that New didn't make, which has no blocks.

func TestNilDisk(t *testing.T) {
	var d *block.Disk
	for _, i := range append(wrongBlocks(1), 0, 1) {
		for _, b := range [][]byte{nil, {}, []byte("a"), make([]byte, 600)} {
			if c := d.Write(i, b); c != api.Nil {
				t.Errorf("Write(%d): %d", i, c)
			}
		}
		if b, c := d.Read(i); len(b) != 0 || c != api.Nil {
			t.Errorf("Read(%d): %q, %d", i, b, c)
		}
	}
	for _, n := range ends(0, 1) {
		d.Fuse(n)
		d.Crash(n, n)
		if c := d.Sync(); c != api.Nil {
			t.Errorf("Sync: %d", c)
		}
	}
	if d.Dark() || d.Blocks() != 0 || d.Size() != 0 || d.Deeds() != 0 || d.Waits() != 0 {
		t.Error("a nil disk tells something")
	}
}

func TestZeroDisk(t *testing.T) {
	d := &block.Disk{}
	for _, i := range append(wrongBlocks(0), 0) {
		if c := d.Write(i, nil); c != api.Arg {
			t.Errorf("Write(%d): %d", i, c)
		}
		if b, c := d.Read(i); len(b) != 0 || c != api.Arg {
			t.Errorf("Read(%d): %q, %d", i, b, c)
		}
	}
	for _, n := range ends(0, 1) {
		d.Sync()
		d.Fuse(n)
		d.Crash(n, n)
	}
	if d.Dark() || d.Blocks() != 0 || d.Size() != 0 || d.Waits() != 0 {
		t.Error("a disk without blocks tells something")
	}
}
