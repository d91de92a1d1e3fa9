package ring_test

import (
	"math"
	"testing"

	"firebell/api"
	"firebell/ring"
)

// wantShape holds Shape and New against what is to be told of those that go together.
func wantShape(t *testing.T, window, grain, many, width int64) {
	t.Helper()
	if n, w, c := ring.Shape(window, grain); int64(n) != many || w != width || c != api.Fine {
		t.Fatalf("Shape(%d, %d): %d, %d, %d, not %d, %d", window, grain, n, w, c, many, width)
	}
	wantRing(t, aRing(t, window, grain), &model{many: many, width: width})
}

// wantNoShape: they don't go together.
func wantNoShape(t *testing.T, window, grain int64) {
	t.Helper()
	if n, w, c := ring.Shape(window, grain); n != 0 || w != 0 || c != api.Arg {
		t.Fatalf("Shape(%d, %d): %d, %d, %d", window, grain, n, w, c)
	}
	if r, c := ring.New(window, grain); r != nil || c != api.Arg {
		t.Fatalf("New(%d, %d): %v, %d", window, grain, r, c)
	}
}

// P19.1
func TestShape(t *testing.T) {
	for _, x := range []struct{ window, grain, many, width int64 }{
		// the document's
		{3600, 10, 60, 60},
		{70, 10, 7, 10},
		// the ends
		{1, 1, 1, 1},
		{34560000, 1, 60, 576000},
		{86400, 86400, 1, 86400},
		{34560000, 86400, 50, 691200},
		{5184000, 86400, 60, 86400},
		{60, 60, 1, 60},
		{10, 10, 1, 10},
		// 60 grains, fewer ones, one more
		{60, 1, 60, 1},
		{600, 10, 60, 10},
		{2, 1, 2, 1},
		{58, 1, 58, 1},
		{59, 1, 59, 1},
		{590, 10, 59, 10},
		{61, 1, 1, 61},
		// primes above 60
		{610, 10, 1, 610},
		{67, 1, 1, 67},
		{97, 1, 1, 97},
		{5788800, 86400, 1, 5788800},
		{34559999, 1, 1, 34559999},
		// multiples of 60
		{120, 1, 60, 2},
		{1200, 10, 60, 20},
		{300, 5, 60, 5},
		{34559940, 1, 60, 575999},
		{2592000, 10, 60, 43200},
		// some numbers up to 60 divide them
		{62, 1, 31, 2},
		{64, 1, 32, 2},
		{77, 1, 11, 7},
		{90, 1, 45, 2},
		{100, 1, 50, 2},
		{116, 1, 58, 2},
		{118, 1, 59, 2},
		{121, 1, 11, 11},
		{122, 1, 2, 61},
		{3481, 1, 59, 59},
		{3599, 1, 59, 61},
		{3721, 1, 1, 3721},
		{35990, 10, 59, 610},
		{34300, 100, 49, 700},
	} {
		wantShape(t, x.window, x.grain, x.many, x.width)
	}
}

// P19.1, with each number of grains up to some, and such as are far apart.
func TestEachShape(t *testing.T) {
	for grains := int64(1); grains <= 34560000; grains += 1 + grains/300 {
		for _, grain := range []int64{1, 2, 7, 10, 59, 60, 61, 3600, 86399, 86400} {
			window := grains * grain
			if window > 34560000 {
				wantNoShape(t, window, grain)
				continue
			}
			many, width := shape(window, grain)
			wantShape(t, window, grain, many, width)
			if width%grain != 0 || many*width != window {
				t.Fatalf("%d by %d: %d of %d", window, grain, many, width)
			}
		}
	}
}

// P19.1 of wrong inputs.
func TestNoShape(t *testing.T) {
	wrong := []int64{0, -1, -10, -86400, math.MinInt64, math.MinInt64 + 1, math.MaxInt64}
	for _, x := range append(wrong, 86401, 86402, 172800, 34560000) {
		for _, window := range []int64{1, 60, 86400, 86401, 86402, 172800, 34560000} {
			wantNoShape(t, window, x)
		}
	}
	for _, x := range append(wrong, 34560001, 34560060, 34646400, 69120000, math.MaxInt64-7, 1<<32, 1<<32+60) {
		for _, grain := range []int64{1, 7, 10, 60, 86400} {
			wantNoShape(t, x, grain)
		}
		for _, grain := range append(wrong, 86401) {
			wantNoShape(t, x, grain)
		}
	}
	for _, x := range [][2]int64{{10, 20}, {1, 2}, {59, 60}, {61, 60}, {119, 60}, {3601, 10}, {3599, 10}, {34559999, 2}, {34559999, 10}, {86399, 86400}, {86401, 86400}, {34559999, 86400}} {
		wantNoShape(t, x[0], x[1])
	}
}

// P19.1 of any numbers about those that go together.
func TestAnyShape(t *testing.T) {
	for window := int64(-3); window <= 250; window++ {
		for grain := int64(-3); grain <= 130; grain++ {
			if !goTogether(window, grain) {
				wantNoShape(t, window, grain)
				continue
			}
			many, width := shape(window, grain)
			wantShape(t, window, grain, many, width)
		}
	}
}
