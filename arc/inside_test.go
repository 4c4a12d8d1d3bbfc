package arc_test

import (
	"math"
	"math/rand/v2"
	"testing"

	"pinball/api"
	"pinball/arc"
)

// expectInside checks Inside at C + d, turned and mirrored too.
func expectInside(t *testing.T, a api.Arc, d api.Vec, reach int, want bool) {
	t.Helper()
	for _, c := range changes() {
		b := c.arc(a)
		p := plus(b.C, c.of(d))
		expect(t, arc.Inside(p, b, reach), want, "Inside of", p, b, reach)
	}
}

// spot is a place as seen from the center of a certain arc, a reach, and whether the place is nearer to the arc than that.
type spot struct {
	x, y, reach int
	in          bool
}

// expectSpots checks those of an arc.
func expectSpots(t *testing.T, a api.Arc, l []spot) {
	t.Helper()
	for _, o := range l {
		expectInside(t, a, vec(o.x, o.y), o.reach, o.in)
	}
}

// P12.2: just within, exactly at and just beyond the reach of a quarter, in its sector and in front of its ends.
func TestInsideQuarter(t *testing.T) {
	for _, c := range []api.Vec{{}, {X: 40, Y: -17}, {X: coord - 500, Y: -coord}} {
		expectSpots(t, around(c, vec(500, 0), vec(0, 500)), []spot{
			{400, 400, 66, true}, {400, 400, 65, false}, // the chapter's: 65.6
			{300, 400, 1, true}, {301, 400, 1, true}, {300, 401, 1, true}, {302, 400, 1, false}, {299, 400, 1, true}, {298, 400, 1, false}, {298, 400, 2, true}, {302, 400, 2, true}, // 500.6, 501.2, 499.4 and 498.8 from C
			{360, 480, 100, false}, {359, 480, 100, true}, {360, 479, 100, true}, {361, 480, 100, false}, {360, 480, 101, true}, // 600 from C
			{240, 320, 100, false}, {241, 320, 100, true}, {240, 321, 100, true}, {239, 320, 100, false}, {240, 320, 101, true}, // 400 from C
			{540, 720, 400, false}, {539, 720, 400, true}, {540, 720, 499, true}, {60, 80, 400, false}, {61, 80, 400, true}, {3, 4, 495, false}, {3, 4, 496, true}, {3, 4, 499, true},
			{1, 1, 499, true}, {1, 1, 498, false}, {0, 0, 499, false}, {1, 0, 499, false}, {2, 0, 499, true}, {0, 1, 499, false}, {-1, 0, 499, false}, {1, -1, 499, false}, {2, -1, 499, true}, // at C and next to it
			{-1, 2, 499, true}, {-1, 1, 499, false}, {-1, -1, 499, false}, {-500, 0, 499, false}, {0, -500, 499, false}, {-300, -400, 499, false},
		})
		expectSpots(t, around(c, vec(500, 0), vec(0, 500)), []spot{
			{500, 0, 1, true}, {500, 1, 1, true}, {500, -1, 1, false}, {500, -1, 2, true}, {499, 0, 1, false}, {501, 0, 1, false}, {501, 0, 2, true}, // around S
			{500, -99, 100, true}, {500, -100, 100, false}, {500, -101, 100, false}, {560, -80, 100, false}, {559, -80, 100, true}, {440, -80, 100, false}, {441, -80, 100, true}, {440, -79, 100, true},
			{600, 0, 100, false}, {599, 0, 100, true}, {400, 0, 100, false}, {401, 0, 100, true}, {600, 1, 100, false}, {599, 1, 100, true}, {400, 1, 100, true}, {500, 0, 100, true},
			{0, 500, 1, true}, {1, 500, 1, true}, {-1, 500, 1, false}, {-1, 500, 2, true}, {0, 501, 1, false}, // around E
			{-99, 500, 100, true}, {-100, 500, 100, false}, {-80, 560, 100, false}, {-80, 559, 100, true}, {-80, 440, 100, false}, {-80, 441, 100, true}, {0, 600, 100, false}, {0, 599, 100, true}, {0, 400, 100, false}, {0, 401, 100, true},
		})
	}
}

// P12.2: nearly half a circle, whose chord is far from it, and a short arc.
func TestInsideOtherArcs(t *testing.T) {
	expectSpots(t, around(vec(3, -7), vec(5, 0), vec(-4, 3)), []spot{
		{0, 5, 1, true}, {0, 4, 1, false}, {0, 6, 1, false}, {0, 4, 2, true}, {0, 3, 2, false}, {0, 3, 3, true}, {0, 2, 3, false}, {0, 2, 4, true}, {0, 1, 4, false}, {3, 4, 1, true}, {3, 5, 1, true}, {4, 4, 1, true}, {4, 5, 1, false}, {4, 5, 2, true},
		{5, 0, 1, true}, {5, -1, 1, false}, {-4, 3, 1, true}, {-4, 2, 1, false}, {-4, 2, 2, true}, {-5, 3, 1, false}, {-5, 2, 2, true}, {-5, 1, 2, false}, {0, -5, 4, false}, {0, -1, 4, false}, {1, -1, 4, false}, {2, -2, 4, true}, {-3, -1, 4, false}, {-3, 0, 4, true}, {-1, 0, 4, false}, {-1, 1, 4, true}, {0, 0, 4, false},
	})
	short := around(vec(-9, 0), vec(44472, 199529), vec(44220, 199585)) // 204425
	expectSpots(t, short, []spot{
		{44472, 199529, 1, true}, {44220, 199585, 1, true}, {44346, 199557, 1, true}, {44346, 199557 + 1000, 1000, true}, {44346, 199557 + 1025, 1000, false}, {44346, 199557 - 1000, 1000, true}, {44346, 199557 - 1025, 1000, false},
		{44472 + 600, 199529 - 800, 1000, false}, {44472 + 600, 199529 - 799, 1000, true}, {44220 - 960, 199585 - 280, 1000, false}, {44220 - 959, 199585 - 280, 1000, true}, {0, 0, 204424, false}, {44472 / 199, 199529 / 199, 204424, true}, {-3, 2, 204424, true}, {-4, 1, 204424, false}, {5, -5, 204424, false},
	})
}

// P12.2: reaches of 0, below 0, 1, Q - 1, Q and beyond, at places that are near to the arc.
func TestInsideWithOtherReaches(t *testing.T) {
	for _, a := range arcs() {
		q := length(minus(a.S, a.C))
		for _, p := range []api.Vec{minus(a.S, a.C), minus(a.E, a.C)} {
			for _, reach := range append(beyond(q-1), 0, -1, -q, 1-q, q+1, 1<<19, 1<<19+1) {
				if reach < 1 || reach >= q {
					expectInside(t, a, p, reach, false)
				}
			}
			expectInside(t, a, p, 1, true)
			expectInside(t, a, p, q-1, true)
		}
	}
	one := around(vec(4, 4), vec(1, 0), vec(0, 1)) // has no permitted reach
	for reach := range 4 {
		expectInside(t, one, vec(1, 0), reach, false)
		expectInside(t, one, vec(1, 1), reach, false)
	}
}

// P12.2: at the ends of the range of positions and beyond them.
func TestInsideAtItsEnds(t *testing.T) {
	great := around(vec(size-coord, size-coord), vec(-size, 0), vec(0, -size))
	expectSpots(t, great, []spot{{-size, 0, 1, true}, {0, -size, 1, true}, {1 - 2*size, 0, size - 1, false}, {2 - 2*size, 0, size - 1, true}, {-1, -1, size - 1, true}, {-1, -1, size - 2, false}, {-1, 0, size - 1, false}})
	for _, p := range append(out(field), vec(field, field), vec(-field, field), vec(0, field), vec(-field, -field)) {
		for _, a := range append(arcs(), great) {
			for _, reach := range []int{1, 4, length(minus(a.S, a.C)) - 1} {
				expect(t, arc.Inside(p, a, reach), false, "Inside of", p, a, reach)
			}
		}
	}
	for _, x := range []int{math.MinInt, math.MaxInt, 0, -coord} {
		expect(t, arc.Inside(vec(x, math.MinInt), great, size-1), false, "Inside of", x)
		expect(t, arc.Inside(vec(math.MinInt, x), great, size-1), false, "Inside of", x)
	}
}

// P12.2: all positions around small arcs, compared with distances in rational numbers.
func TestInsideAround(t *testing.T) {
	for _, a := range []api.Arc{around(vec(1, -2), vec(5, 0), vec(-4, 3)), around(vec(0, 0), vec(5, 0), vec(4, 3)), around(vec(2, 1), vec(-3, -4), vec(3, -4)), around(vec(0, 1), vec(0, 5), vec(-5, 0)), around(vec(0, 0), vec(2, 0), vec(0, 2))} {
		for x := -13; x <= 13; x++ {
			for y := -13; y <= 13; y++ {
				for reach := 1; reach < length(minus(a.S, a.C)); reach++ {
					p := vec(x, y)
					expect(t, arc.Inside(p, a, reach), includes(a, whole(x), whole(y), reach), "Inside of", p, a, reach)
				}
			}
		}
	}
}

// P12.2: random arcs and positions, compared with distances in rational numbers.
func TestInsideOfRandomArcs(t *testing.T) {
	r := rand.New(rand.NewPCG(3, 12))
	for range 4000 {
		for _, n := range spans() {
			a := randomArc(r, n)
			reach := randomReach(r, a)
			p := near(r, a, reach)
			if r.IntN(8) == 0 {
				p = position(r, field)
			}
			expect(t, arc.Inside(p, a, reach), includes(a, whole(p.X), whole(p.Y), reach), "Inside of", p, a, reach)
		}
	}
}
