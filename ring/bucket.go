package ring

import (
	"firebell/api"
	"firebell/wire"
)

// none: is nobody there? What New and Get didn't make has no buckets, and is as nil.
func (r *Ring) none() bool {
	return r == nil || len(r.buckets) == 0
}

// number of a tick's bucket.
func (r *Ring) number(at int64) int64 {
	return at / r.width
}

// eldest: the number of the bucket that goes next; it may be below 0.
func (r *Ring) eldest() int64 {
	return r.number(r.now) - int64(len(r.buckets)) + 1
}

// fill a ring that has nothing yet with a count for each bucket: were they there, and could they be added?
func (r *Ring) fill(from *wire.Reader) bool {
	eldest := r.eldest()
	for i := range r.buckets {
		c := api.Count{Good: from.Num(), Total: from.Num()}
		if !r.lay(eldest+int64(i), c) {
			return false
		}
	}
	return !from.Bad()
}

// lay a count into the bucket of a number: could it be added? Ahead of tick 0 there was nothing to count.
func (r *Ring) lay(number int64, c api.Count) bool {
	if number < 0 {
		return c == (api.Count{})
	}
	return r.Add(number*r.width, c) == api.Fine
}

// spoil a reader: no number is at most -1, so it is bad whatever stands there.
func spoil(r *wire.Reader) {
	r.Count(-1)
}

// tick: is it one?
func tick(at int64) bool {
	return at >= 0 && at <= api.MaxTick
}

// right: are no more good than there are?
func right(c api.Count) bool {
	return c.Good <= c.Total
}

// plus is both counts, of which not more than MaxCount are told in all.
func plus(a, b api.Count) api.Count {
	return api.Count{Good: a.Good + b.Good, Total: a.Total + b.Total}
}
