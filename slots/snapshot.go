package slots

import (
	"slices"

	"firebell/crc"
	"firebell/wire"
)

// besideBytes: what stands in a slot beside a snapshot's bytes, a frame's own 10 bytes, and of an epoch up to 9.
const besideBytes = 10 + 9

// snapshot is bytes, and which one it is: that of epoch 0 is none.
type snapshot struct {
	epoch uint64
	bytes []byte
}

// snapshotOf a slot that has such bytes; none, if it has no snapshot.
func snapshotOf(slot int, b []byte) snapshot {
	// Where no frame stands nothing is told, and a reader of nothing tells 0 as what would be the epoch.
	framed, _, _ := crc.Open(b)
	r := wire.New(framed)
	s := snapshot{epoch: r.Num()}
	if s.epoch == 0 || s.slot() != slot {
		return snapshot{}
	}
	s.bytes = framed[len(framed)-r.Left():]
	return s
}

// slot: the one that it goes to.
func (s snapshot) slot() int {
	return int(s.epoch % slotsOfPair)
}

// frame: as it stands in its slot.
func (s snapshot) frame() []byte {
	return crc.Frame(slices.Concat(wire.Num(nil, s.epoch), s.bytes))
}
