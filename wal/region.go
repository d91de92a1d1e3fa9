package wal

import (
	"slices"

	"firebell/api"
	"firebell/block"
)

// region is n blocks of a disk, from one on.
type region struct {
	disk    *block.Disk
	from, n int
}

// on: the region, if it is on the disk.
func on(d *block.Disk, from, n int) (region, api.Code) {
	switch {
	case d == nil:
		return region{}, api.Nil
	// The two aren't added up: their sum may go round.
	case from < 0 || n < 1 || n > d.Blocks()-from:
		return region{}, api.Arg
	}
	return region{d, from, n}, api.Fine
}

// length: how many bytes it has.
func (r region) length() int {
	return r.n * r.disk.Size()
}

// read: all of its bytes.
func (r region) read() ([]byte, api.Code) {
	var all []byte
	for i := range r.n {
		b, c := r.disk.Read(r.from + i)
		if c != api.Fine {
			return nil, c
		}
		all = append(all, b...)
	}
	return all, api.Fine
}

// wipe: from a byte on all is 0, and lasts.
func (r region) wipe(at int) api.Code {
	return r.put(at, make([]byte, r.length()-at))
}

// put: from a byte on it has b, with 0 behind up to the end of a block, and that lasts.
//
// The blocks are written from the front on, and those bytes of the first one that stand ahead are
// written as they are: so a crash leaves a beginning of b, with what was there behind it. Where all
// was 0, a beginning of a frame is no record; where 0 is put, the first of it ends the records.
func (r region) put(at int, b []byte) api.Code {
	size := r.disk.Size()
	first := r.from + at/size
	head, c := r.disk.Read(first)
	if c != api.Fine {
		return c
	}
	b = slices.Concat(head[:at%size], b)
	for i := range (len(b) + size - 1) / size {
		if c := r.disk.Write(first+i, b[i*size:min((i+1)*size, len(b))]); c != api.Fine {
			return c
		}
	}
	return r.disk.Sync()
}
