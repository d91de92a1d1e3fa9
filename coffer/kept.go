package coffer

import (
	"math"

	"firebell/api"
	"firebell/slots"
	"firebell/wal"
)

// kept is slots, and more: the log that counts, and how many records it has.
type kept struct {
	*slots.Slots
	place
	log     *wal.Log
	records int
	// What told Down doesn't know what its disk has any more, so it goes on to tell it. The slots, and
	// each log, know that of themselves alone.
	down bool
}

// add: one more record.
func (k *kept) add(b []byte) api.Code {
	if k.dark() {
		return api.Down
	}
	if e := k.log.Append(b); e != api.Fine {
		return e
	}
	k.records++
	return api.Fine
}

// checkpoint: a snapshot of the next epoch, and no records.
//
// What the slots would refuse is refused ahead of the first deed. The snapshot is put last: as soon as
// it lasts, the other log counts, so that one is empty by then, and what may fail is over.
func (k *kept) checkpoint(b []byte) api.Code {
	switch {
	case k.dark():
		return api.Down
	case len(b) > k.Most():
		return api.Full
	case k.Epoch() == math.MaxUint64:
		return api.Over
	}
	next, e := k.emptyLog(k.Epoch() + 1)
	if e != api.Fine {
		return e
	}
	if e := k.Put(b); e != api.Fine {
		return e
	}
	k.log, k.records = next, 0
	return api.Fine
}

// dark: is there nothing that can be kept any more?
func (k *kept) dark() bool {
	return k.down || k.disk.Dark()
}

// told: a code, of which Down is remembered.
func (k *kept) told(e api.Code) api.Code {
	k.down = e == api.Down
	return e
}
