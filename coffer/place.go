package coffer

import (
	"firebell/api"
	"firebell/block"
	"firebell/slots"
	"firebell/wal"
)

// ofEach: there are so many slots, and so many logs; an epoch's are those whose number it leaves when it is divided by so many.
const ofEach = 2

// place is where all of a coffer lies: both slots at the disk's front, and both logs behind them.
type place struct {
	disk *block.Disk
	// How many blocks a slot has, and a log.
	ofSlot, ofLog int
}

// on: the place, if there are blocks for all of it.
func on(d *block.Disk, slot int) (place, api.Code) {
	if d == nil {
		return place{}, api.Nil
	}
	// The disk's blocks are divided, since the slot's may go round when there are twice as many.
	each := d.Blocks() / ofEach
	if slot < 1 || slot >= each {
		return place{}, api.Arg
	}
	return place{d, slot, each - slot}, api.Fine
}

// slotAt: the first block of an epoch's slot.
func (p place) slotAt(epoch uint64) int {
	return int(epoch%ofEach) * p.ofSlot
}

// logAt: the first block of an epoch's log.
func (p place) logAt(epoch uint64) int {
	return ofEach*p.ofSlot + int(epoch%ofEach)*p.ofLog
}

// open: what is kept there, and its records.
func (p place) open() (kept, [][]byte, api.Code) {
	s, e := slots.Open(p.disk, 0, p.ofSlot)
	if e != api.Fine {
		return kept{}, nil, e
	}
	log, records, e := wal.Open(p.disk, p.logAt(s.Epoch()), p.ofLog)
	if e != api.Fine {
		return kept{}, nil, e
	}
	return kept{Slots: s, place: p, log: log, records: len(records)}, records, api.Fine
}

// emptyLog: an epoch's log, when what it had is gone for good.
func (p place) emptyLog(epoch uint64) (*wal.Log, api.Code) {
	at := p.logAt(epoch)
	if e := wal.Format(p.disk, at, p.ofLog); e != api.Fine {
		return nil, e
	}
	log, _, e := wal.Open(p.disk, at, p.ofLog)
	return log, e
}

// wipe: both slots, and both logs, are formatted.
//
// A crash shall leave what was kept, or nothing of it. So an elder snapshot goes first, lest it count
// again, and the one that counts goes only when log 0 is empty, which counts without one. (Where log 0
// counted ahead of that, its records go ahead of their snapshot: no write reaches both.)
func (p place) wipe() api.Code {
	s, e := slots.Open(p.disk, 0, p.ofSlot)
	if e != api.Fine {
		return e
	}
	elder := 1 - s.Epoch()%ofEach
	// All bytes of a slot alone come to be 0, and last, as those of a log do.
	if e := wal.Format(p.disk, p.slotAt(elder), p.ofSlot); e != api.Fine {
		return e
	}
	if e := wal.Format(p.disk, p.logAt(0), p.ofLog); e != api.Fine {
		return e
	}
	if e := slots.Format(p.disk, 0, p.ofSlot); e != api.Fine {
		return e
	}
	return wal.Format(p.disk, p.logAt(1), p.ofLog)
}
