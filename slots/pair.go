package slots

import (
	"iter"

	"firebell/api"
	"firebell/block"
)

// slotsOfPair: an epoch's slot is what it leaves when it is divided by so many.
const slotsOfPair = 2

// pair is two slots of n blocks of a disk, one behind the other, from a block on.
type pair struct {
	disk    *block.Disk
	from, n int
}

// on: the pair, if both slots are on the disk.
func on(d *block.Disk, from, n int) (pair, api.Code) {
	if d == nil {
		return pair{}, api.Nil
	}
	// What is left of the disk is halved, since n doubled, or added to from, may go round.
	if from < 0 || n < 1 || n > (d.Blocks()-from)/slotsOfPair {
		return pair{}, api.Arg
	}
	return pair{d, from, n}, api.Fine
}

// length: how many bytes a slot has.
func (p pair) length() int {
	return p.n * p.disk.Size()
}

// front: a slot's first block.
func (p pair) front(slot int) int {
	return p.from + slot*p.n
}

// read: all bytes of a slot.
func (p pair) read(slot int) ([]byte, api.Code) {
	all := make([]byte, 0, p.length())
	for i := p.front(slot); i < p.front(slot+1); i++ {
		b, c := p.disk.Read(i)
		if c != api.Fine {
			return nil, c
		}
		all = append(all, b...)
	}
	return all, api.Fine
}

// put: the slot of its epoch's number has just this snapshot, and that lasts.
//
// What stood there goes first, and for good: a crash leaves a beginning of the frame with 0 behind it,
// which is no frame, and never one of which a part is of another time.
func (p pair) put(s snapshot) api.Code {
	at := p.front(s.slot())
	if c := p.write(at, make([]byte, p.length())); c != api.Fine {
		return c
	}
	return p.write(at, s.frame())
}

// write: the blocks from one on have b, with 0 behind up to the end of the last of them, and that lasts.
func (p pair) write(at int, b []byte) api.Code {
	for i, piece := range pieces(b, p.disk.Size()) {
		if c := p.disk.Write(at+i, piece); c != api.Fine {
			return c
		}
	}
	return p.disk.Sync()
}

// pieces of some bytes, as blocks of a size take them, from the front on, and how many are ahead of each; the last one may be shorter.
func pieces(b []byte, size int) iter.Seq2[int, []byte] {
	return func(yield func(int, []byte) bool) {
		for i := 0; i*size < len(b); i++ {
			if !yield(i, b[i*size:min((i+1)*size, len(b))]) {
				return
			}
		}
	}
}
