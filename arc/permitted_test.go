package arc_test

import (
	"math"
	"math/rand/v2"
	"testing"

	"pinball/api"
	"pinball/arc"
)

// expectRadius checks Radius of a, turned and mirrored too; a radius of 0 stands for
// an arc that is not permitted, for which all other functions have no results.
func expectRadius(t *testing.T, a api.Arc, radius int) {
	t.Helper()
	for _, c := range changes() {
		b := c.arc(a)
		q, ok := arc.Radius(b)
		expect(t, q, radius, "Radius of", b)
		expect(t, ok, radius > 0, "Radius accepts", b)
		if radius == 0 {
			expectNothing(t, b)
		}
	}
}

// expectNothing checks that an arc that is not permitted has no sector, surroundings or normals.
func expectNothing(t *testing.T, a api.Arc) {
	t.Helper()
	middle := vec((a.S.X+a.E.X)/2, (a.S.Y+a.E.Y)/2)
	for _, p := range []api.Vec{{}, {X: 5, Y: 3}, a.C, a.S, a.E, middle, plus(middle, vec(1, 1)), plus(a.S, vec(0, -1)), plus(a.E, vec(-1, 0))} {
		q := times(256, p)
		expect(t, arc.Sector(a, q), false, "Sector of", a, q)
		expect(t, arc.Normal(q, a), api.Vec{}, "Normal of", q, a)
		expect(t, arc.Normal(p, a), api.Vec{}, "Normal of", p, a)
		for _, reach := range []int{1, 2, 4, 100, size - 1, 0, -1, 1 << 19, math.MaxInt, math.MinInt} {
			expect(t, arc.Inside(p, a, reach), false, "Inside of", p, a, reach)
			for _, m := range []api.Motion{{}, {P: p}, {P: p, V: vec(1, 1)}, {P: p, V: vec(-9, 5), H: vec(0, -4)}} {
				expect(t, len(arc.Conditions(m, a, reach)), 0, "the number of conjunctions of", m, a, reach)
			}
		}
	}
}

// P12.1: the radii of permitted arcs.
func TestRadius(t *testing.T) {
	for i, want := range []int{500, 5, 65, 25, 204425, 160225, size, 2} {
		expectRadius(t, arcs()[i], want)
	}
	expectRadius(t, around(vec(0, 0), vec(3, 4), vec(0, 5)), 5)
	expectRadius(t, around(vec(0, 0), vec(3, 4), vec(3, -4)), 0)
	expectRadius(t, around(vec(0, 0), vec(3, -4), vec(3, 4)), 5)
	expectRadius(t, around(vec(0, 0), vec(52, 39), vec(39, 52)), 65)
	expectRadius(t, around(vec(0, 0), vec(44220, 199585), vec(44472, 199529)), 0) // the other way round
}

// P12.1: radii of 1, of MaxSize and one more.
func TestLeastAndGreatestRadius(t *testing.T) {
	for _, q := range []int{1, 2, 3, 4, 5, 100, size - 1, size} {
		expectRadius(t, around(vec(0, 0), vec(q, 0), vec(0, q)), q)
		expectRadius(t, around(vec(-4, 9), vec(0, -q), vec(q, 0)), q)
	}
	for _, q := range []int{size + 1, size + 2, 2 * size, coord, 0} {
		expectRadius(t, around(vec(0, 0), vec(q, 0), vec(0, q)), 0)
	}
	expectRadius(t, around(vec(-coord, -coord), vec(2*coord, 0), vec(0, 2*coord)), 0)
	expectRadius(t, around(vec(0, 0), vec(262140, 5), vec(0, 262145)), 0)
	expectRadius(t, around(vec(1, 1), vec(157287, 209716), vec(-209716, 157287)), 0) // 5 times 52429, which is one more than MaxSize
	expectRadius(t, around(vec(1, 1), vec(157284, 209712), vec(-209712, 157284)), 262140)
}

// P12.1: lengths that are different, or that are not whole.
func TestOtherLengths(t *testing.T) {
	for _, o := range []struct{ s, e api.Vec }{
		{vec(500, 0), vec(0, 499)}, {vec(500, 0), vec(0, 501)}, {vec(499, 0), vec(0, 500)}, {vec(500, 0), vec(1, 500)}, {vec(500, 0), vec(0, 1)}, {vec(500, 0), vec(0, 1000)},
		{vec(3, 4), vec(-4, 4)}, {vec(3, 4), vec(-3, 3)}, {vec(24, 7), vec(7, 25)}, {vec(24, 7), vec(20, 16)}, {vec(size, 0), vec(0, size-1)}, {vec(size, 0), vec(1, size)},
		{vec(1, 1), vec(-1, 1)}, {vec(2, 1), vec(1, 2)}, {vec(1, 7), vec(-5, 5)}, {vec(4, 4), vec(-4, 4)}, {vec(500, 1), vec(-1, 500)}, {vec(size-1, 1), vec(-1, size-1)}, {vec(185363, 185364), vec(-185363, 185364)},
		{vec(12, 1), vec(-1, 12)}, {vec(12, 2), vec(2, 12)}, {vec(4, 1), vec(-1, 4)}, {vec(131072, 511), vec(-511, 131072)}, // one more or less than a square
	} {
		expectRadius(t, around(vec(0, 0), o.s, o.e), 0)
		expectRadius(t, around(vec(40, -30), o.s, o.e), 0)
	}
}

// P12.1: a Cross of 0 and below 0, with ends that are equal, opposite, or the other way round.
func TestOtherDirections(t *testing.T) {
	for _, o := range []struct{ s, e api.Vec }{
		{vec(500, 0), vec(500, 0)}, {vec(500, 0), vec(-500, 0)}, {vec(3, 4), vec(3, 4)}, {vec(3, 4), vec(-3, -4)}, {vec(size, 0), vec(size, 0)}, {vec(0, -size), vec(0, size)},
		{vec(0, 500), vec(500, 0)}, {vec(3, 4), vec(4, 3)}, {vec(3, 4), vec(5, 0)}, {vec(-4, 3), vec(5, 0)}, {vec(-4, -3), vec(-4, 3)}, {vec(0, size), vec(size, 0)}, {vec(0, 0), vec(0, 0)}, {vec(1, 0), vec(0, -1)},
	} {
		expectRadius(t, around(vec(0, 0), o.s, o.e), 0)
		expectRadius(t, around(vec(-20, 7), o.s, o.e), 0)
	}
	expectRadius(t, api.Arc{}, 0)
}

// P12.1: C, S and E at MaxCoord and one beyond it.
func TestPositionsOfArcs(t *testing.T) {
	for _, q := range []int{1, 5, size} {
		s, e, c := vec(q, 0), vec(0, q), coord-q
		expectRadius(t, around(vec(c, c), s, e), q)
		expectRadius(t, around(vec(c+1, 0), s, e), 0) // S
		expectRadius(t, around(vec(0, c+1), s, e), 0) // E
		expectRadius(t, around(vec(c, 1-coord), s, e), q)
		expectRadius(t, around(vec(-coord, -coord), s, e), q)
		expectRadius(t, around(vec(-coord-1, 0), s, e), 0) // C
		expectRadius(t, around(vec(0, -coord-1), s, e), 0)
	}
	expectRadius(t, around(vec(coord, 0), vec(-3, 4), vec(-4, -3)), 5)
	expectRadius(t, around(vec(coord+1, 0), vec(-3, 4), vec(-4, -3)), 0) // C alone
	expectRadius(t, around(vec(coord-4, 0), vec(4, -3), vec(3, 4)), 5)
	expectRadius(t, around(vec(coord-3, 0), vec(4, -3), vec(3, 4)), 0) // S alone
	expectRadius(t, around(vec(coord-3, 0), vec(3, -4), vec(3, 4)), 5)
	expectRadius(t, around(vec(coord-3, 0), vec(3, -4), vec(4, 3)), 0) // E alone
}

// P12.1: positions far beyond the range, also such that wrap around.
func TestOtherPositionsOfArcs(t *testing.T) {
	for _, p := range out(coord) {
		for _, a := range []api.Arc{bow(p, vec(500, 0), vec(0, 500)), bow(vec(0, 0), p, vec(0, 500)), bow(vec(0, 0), vec(500, 0), p), around(p, vec(500, 0), vec(0, 500)), bow(p, p, p), around(vec(0, 0), p, turned(p, 1))} {
			_, ok := arc.Radius(a)
			expect(t, ok, false, "Radius accepts", a)
			expectNothing(t, a)
		}
	}
}

// P12.1: of all small arcs, those are permitted whose ends have the same whole length and the right order.
func TestSmallArcs(t *testing.T) {
	for x := -5; x <= 5; x++ {
		for y := -5; y <= 5; y++ {
			for u := -5; u <= 5; u++ {
				for v := -5; v <= 5; v++ {
					want := 0
					for q := 1; q <= 7; q++ {
						if x*x+y*y == q*q && u*u+v*v == q*q && x*v > y*u {
							want = q
						}
					}
					q, ok := arc.Radius(around(vec(2, -3), vec(x, y), vec(u, v)))
					expect(t, q, want, "Radius with", x, y, u, v)
					expect(t, ok, want > 0, "Radius accepts", x, y, u, v)
				}
			}
		}
	}
}

// P12.1: random arcs are permitted, and those with an end moved by one are not.
func TestRandomArcs(t *testing.T) {
	r := rand.New(rand.NewPCG(1, 12))
	for range 1000 {
		for _, n := range spans() {
			a := randomArc(r, n)
			expectRadius(t, a, length(minus(a.S, a.C)))
			a.S.X++
			_, ok := arc.Radius(a) // the square of the length has become odd or even
			expect(t, ok, false, "Radius accepts", a)
		}
	}
}
