package arc_test

import (
	"math"
	"math/rand/v2"
	"testing"

	"pinball/api"
	"pinball/arc"
)

// expectSector checks Sector of a at 256 C + d, turned and mirrored too.
func expectSector(t *testing.T, a api.Arc, d api.Vec, want bool) {
	t.Helper()
	for _, c := range changes() {
		b := c.arc(a)
		q := plus(times(256, b.C), c.of(d))
		expect(t, arc.Sector(b, q), want, "Sector of", b, q)
	}
}

// P12.1: on both edges of a quarter, just within and just beyond them, on the far side and at C.
func TestSectorOfQuarter(t *testing.T) {
	for _, a := range []api.Arc{bow(vec(0, 0), vec(500, 0), vec(0, 500)), around(vec(-70, 33), vec(500, 0), vec(0, 500)), around(vec(5, 5), vec(1, 0), vec(0, 1)), around(vec(coord-size, -coord), vec(size, 0), vec(0, size))} {
		for _, o := range []struct {
			x, y int
			in   bool
		}{
			{1, 1, true}, {1, 0, false}, {0, 1, false}, {0, 0, false}, {-1, 1, false}, {1, -1, false}, {-1, -1, false}, {-1, 0, false}, {0, -1, false},
			{128000, 1, true}, {128000, 0, false}, {128000, -1, false}, {1, 128000, true}, {0, 128000, false}, {-1, 128000, false}, {128000, 128000, true}, {-128000, -128000, false},
			{1 << 28, 1, true}, {1 << 28, 0, false}, {1, 1 << 28, true}, {0, 1 << 28, false}, {1 << 28, 1 << 28, true}, {1 << 28, -1, false},
		} {
			if c := plus(times(256, a.C), vec(o.x, o.y)); c.X > -fine && c.X <= fine && c.Y >= -fine && c.Y <= fine {
				expectSector(t, a, vec(o.x, o.y), o.in)
			}
		}
	}
}

// P12.1: a sector of less than a quarter, and one of nearly half a turn.
func TestSlantedSectors(t *testing.T) {
	narrow, wide := around(vec(90, 80), vec(24, 7), vec(7, 24)), around(vec(3, -7), vec(5, 0), vec(-4, 3))
	for _, o := range []struct {
		a    api.Arc
		x, y int
		in   bool
	}{
		{narrow, 24, 7, false}, {narrow, 24, 8, true}, {narrow, 24, 6, false}, {narrow, 23, 7, true}, {narrow, 25, 7, false}, {narrow, 7, 24, false}, {narrow, 8, 24, true}, {narrow, 6, 24, false}, {narrow, 7, 23, true}, {narrow, 7, 25, false},
		{narrow, 24000, 7000, false}, {narrow, 24000, 7001, true}, {narrow, 24001, 7000, false}, {narrow, 7001, 24000, true}, {narrow, 7000, 24001, false}, {narrow, 1, 1, true}, {narrow, -1, -1, false}, {narrow, -24, -7, false}, {narrow, -24, -8, false}, {narrow, 0, 0, false},
		{wide, 5, 0, false}, {wide, 5, 1, true}, {wide, 5, -1, false}, {wide, -4, 3, false}, {wide, -4, 4, true}, {wide, -4, 2, false}, {wide, -3, 3, true}, {wide, -5, 3, false}, {wide, 0, 1, true}, {wide, 0, -1, false}, {wide, -1, 0, false}, {wide, 1, 0, false},
		{wide, -4000, 3000, false}, {wide, -3999, 3000, true}, {wide, -4001, 3000, false}, {wide, -4000, -3000, false}, {wide, 4, -3, false}, {wide, 0, 0, false}, {wide, -1, 1, true}, {wide, -2, 1, false},
	} {
		expectSector(t, o.a, vec(o.x, o.y), o.in)
	}
}

// P12.1: components of exactly 2^29, of one more, and far beyond.
func TestSectorAtItsEnds(t *testing.T) {
	for _, a := range []api.Arc{bow(vec(0, 0), vec(500, 0), vec(0, 500)), around(vec(-coord, -coord), vec(5, 0), vec(0, 5))} {
		for _, c := range changes() {
			b := c.arc(a)
			for _, o := range []struct {
				x, y int
				in   bool
			}{
				{fine, fine, true}, {fine, 1, true}, {1, fine, true}, {fine - 1, fine - 1, true}, {fine + 1, 1, false}, {1, fine + 1, false}, {fine + 1, fine, false}, {fine, fine + 1, false}, {fine + 1, fine + 1, false},
			} {
				expect(t, arc.Sector(b, c.of(vec(o.x, o.y))), o.in, "Sector of", b, "at", o)
			}
		}
	}
	for _, p := range out(fine) {
		for _, a := range arcs() {
			expect(t, arc.Sector(a, p), false, "Sector of", a, p)
		}
	}
	for _, x := range []int{math.MinInt, math.MaxInt, -fine, fine, 0} {
		for _, y := range []int{math.MinInt, math.MaxInt} {
			for _, c := range changes() {
				b := c.arc(arcs()[0])
				expect(t, arc.Sector(b, vec(x, y)), false, "Sector of", b, x, y)
				expect(t, arc.Sector(b, vec(y, x)), false, "Sector of", b, y, x)
			}
		}
	}
	great := around(vec(coord, coord), vec(-5, 0), vec(0, -5)) // away from the corner, the whole range
	expect(t, arc.Sector(great, vec(-fine, -fine)), true, "Sector of", great)
	expect(t, arc.Sector(great, vec(-fine, 256*coord)), false, "Sector of", great)
	expect(t, arc.Sector(great, vec(-fine, 256*coord-1)), true, "Sector of", great)
	expect(t, arc.Sector(great, vec(256*coord-1, -fine)), true, "Sector of", great)
	expect(t, arc.Sector(great, vec(-fine-1, -fine)), false, "Sector of", great)
}

// P12.1: random places, compared with sums of positive parts of the ways to the ends.
func TestRandomSectors(t *testing.T) {
	r := rand.New(rand.NewPCG(2, 12))
	for range 3000 {
		for _, n := range spans() {
			a := randomArc(r, n)
			q := randomPlace(r, a, n)
			x, y := whole(q.X-256*a.C.X), whole(q.Y-256*a.C.Y)
			expect(t, arc.Sector(a, q), faces(a, x, y), "Sector of", a, q)
		}
	}
}

// randomPlace is 256 times a position near the arc, and a bit more or less; some are
// anywhere in the field, others exactly on an edge of the sector or on its middle line.
func randomPlace(r *rand.Rand, a api.Arc, n span) api.Vec {
	s, e := minus(a.S, a.C), minus(a.E, a.C)
	switch r.IntN(8) {
	case 0:
		return plus(times(256, position(r, field/2)), position(r, 256))
	case 1:
		return plus(times(256, a.C), times(r.IntN(600)-40, s))
	case 2:
		return plus(times(256, a.C), times(r.IntN(600)-40, e))
	case 3:
		return plus(times(256, a.C), times(r.IntN(600)-300, plus(s, e)))
	}
	p := near(r, a, randomReach(r, a))
	return plus(times(256, p), position(r, 256))
}
