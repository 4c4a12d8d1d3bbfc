package arc_test

import (
	"math"
	"math/big"
	"math/rand/v2"
	"slices"
	"testing"

	"pinball/api"
	"pinball/arc"
	"pinball/entry"
)

// expectLimits checks that l has conjunctions, and that they are within the limits.
func expectLimits(t *testing.T, l [][]api.Poly, what ...any) {
	t.Helper()
	if len(l) < 1 || len(l) > 8 {
		t.Error(append(what, "has", len(l), "conjunctions")...)
	}
	for _, c := range l {
		for _, p := range c {
			if len(p)-1 > 4 {
				t.Error(append(what, "has the degree", len(p)-1)...)
			}
			for _, a := range p {
				if number(a).BitLen() > 200 {
					t.Error(append(what, "has a coefficient of", number(a).BitLen(), "bits")...)
				}
			}
		}
	}
	if _, _, e := entry.First(l); e != api.OK {
		t.Error(append(what, "makes First return", e)...)
	}
}

// moments are all sixteenths of the tick, and some times between, before and behind them.
func moments() []*big.Rat {
	var l []*big.Rat
	for j := -8; j <= 24; j++ {
		l = append(l, big.NewRat(int64(j), 16))
	}
	for _, n := range []int64{-5, -4, -3, -2, 2, 3, 4, 7, 30, -30, 1000, -1000, 1000000, -1000000} {
		l = append(l, big.NewRat(n, 1), big.NewRat(n, 7))
	}
	return l
}

// expectConditions checks Conditions against the position at all times of l.
func expectConditions(t *testing.T, m api.Motion, a api.Arc, reach int, l []*big.Rat) {
	t.Helper()
	found := arc.Conditions(m, a, reach)
	expectLimits(t, found, "Conditions of", m, a, reach)
	for _, at := range l {
		want := includes(a, coordinate(m.P.X, m.V.X, m.H.X, at), coordinate(m.P.Y, m.V.Y, m.H.Y, at), reach)
		expect(t, holds(found, at), want, "Conditions of", m, a, reach, "at", at)
	}
}

// between is an open interval of time, in 32ths of the tick.
type between struct{ from, to int }

// passage is a Motion, with the times at which it is in certain surroundings.
type passage struct {
	m     api.Motion
	times []between
}

// always are all times.
func always() []between {
	return []between{{math.MinInt, math.MaxInt}}
}

// expectPassages checks those of one arc, turned and mirrored too.
func expectPassages(t *testing.T, a api.Arc, reach int, l []passage) {
	t.Helper()
	for i, o := range l {
		for _, c := range changes() {
			found := arc.Conditions(c.motion(o.m), c.arc(a), reach)
			expectLimits(t, found, "passage", i)
			for n := -320; n <= 320; n++ {
				in := slices.ContainsFunc(o.times, func(w between) bool { return w.from < n && n < w.to })
				expect(t, holds(found, big.NewRat(int64(n), 32)), in, "passage", i, "with", c, "at", n)
			}
		}
	}
}

// P12.2: written flights in the sector of a quarter, along the direction (3, 4) from its center.
func TestPassagesOfMiddle(t *testing.T) {
	expectPassages(t, bow(vec(0, 0), vec(500, 0), vec(0, 500)), 100, []passage{
		{fly(120, 160, 240, 320, 0, 0), []between{{16, 32}}},                        // from 200 to 600, from the inside
		{fly(480, 640, -240, -320, 0, 0), []between{{16, 32}}},                      // from 800 to 400, from outside
		{fly(120, 160, 480, 640, 0, 0), []between{{8, 16}}},                         // through it
		{fly(180, 240, 60, 80, 0, 0), []between{{32, 96}}},                          // enters at the end of the tick
		{fly(240, 320, 60, 80, 0, 0), []between{{0, 64}}},                           // at its beginning
		{fly(360, 480, -60, -80, 0, 0), []between{{0, 64}}},                         // from outside
		{fly(300, 400, 120, 160, 0, 0), []between{{-16, 16}}},                       // leaves
		{fly(330, 440, -60, -80, 0, 0), []between{{-16, 48}}},                       // leaves behind the tick
		{fly(240, 320, 0, 0, -6, -8), nil},                                          // comes up to the edge, and goes back
		{fly(360, 480, 0, 0, 6, 8), nil},                                            // the same from outside
		{fly(270, 360, 96, 128, -96, -128), []between{{-8, 40}}},                    // from 450 to 490 and back
		{fly(285, 380, -240, -320, 240, 320), []between{{-8, 8}, {24, 40}}},         // from 475 to 375 and back
		{fly(315, 420, 240, 320, -240, -320), []between{{-8, 8}, {24, 40}}},         // from 525 to 625 and back
		{fly(240, 320, 4, -3, 0, 0), []between{{math.MinInt, 0}, {0, math.MaxInt}}}, // along a tangent, touching the inner circle
		{fly(360, 480, 4, -3, 0, 0), nil},                                           // touching the outer circle
		{fly(300, 400, 0, 0, 0, 0), always()},                                       // does not move
		{fly(241, 320, 0, 0, 0, 0), always()},
		{fly(240, 320, 0, 0, 0, 0), nil},
		{fly(360, 480, 0, 0, 0, 0), nil},
		{fly(359, 480, 0, 0, 0, 0), always()},
		{fly(0, 0, 0, 0, 0, 0), nil},
		{fly(200, 200, 1, 2, 0, 0), nil}, // stays outside
		{fly(500, 500, 2, -3, 0, 0), nil},
		{fly(330, 400, 1, -1, 0, 0), always()}, // stays within
	})
}

// P12.2: written flights past the ends of a quarter, and from one end to the other.
func TestPassagesOfEnds(t *testing.T) {
	for _, c := range []api.Vec{{}, {X: -90, Y: 35}} {
		l := []passage{
			{fly(340, -60, 320, 0, 0, 0), []between{{8, 24}}},               // below S
			{fly(340, -100, 320, 0, 0, 0), nil},                             // touches there
			{fly(300, 0, 400, 0, 0, 0), []between{{8, 24}}},                 // along the edge of the sector, through S
			{fly(0, 700, 0, -400, 0, 0), []between{{8, 24}}},                // through E
			{fly(-60, 340, 0, 320, 0, 0), []between{{8, 24}}},               // to the left of E
			{fly(-100, 340, 0, 320, 0, 0), nil},                             // touches there
			{fly(500, -350, 0, 1200, 0, -800), []between{{8, 40}}},          // from below S into the sector and back
			{fly(200, 360, 160, -160, 0, 0), []between{{-47, 8}, {24, 79}}}, // from E to S, inside of the arc in between
			{fly(0, 0, 1, 1, 0, 0), nil},                                    // at C
			{fly(500, 0, 0, 0, 0, 0), always()},                             // at S
			{fly(500, -99, 0, 0, 0, 0), always()},
			{fly(500, -100, 0, 0, 0, 0), nil},
			{fly(-60, 580, 0, 0, 0, 0), nil},
			{fly(-300, -400, 3, 4, 0, 0), nil}, // on the far side of the circle
			{fly(-500, -3, 0, 1, 0, 0), nil},
		}
		for i := range l {
			l[i].m.P = plus(l[i].m.P, c)
		}
		expectPassages(t, around(c, vec(500, 0), vec(0, 500)), 100, l)
	}
}

// P12.2: small arcs with all reaches, with balls at many places around them, at rest and moving.
func TestShortFlights(t *testing.T) {
	l := []*big.Rat{big.NewRat(0, 1), big.NewRat(3, 16), big.NewRat(1, 2), big.NewRat(1, 1)}
	for _, a := range []api.Arc{around(vec(1, -2), vec(5, 0), vec(-4, 3)), around(vec(0, 0), vec(5, 0), vec(4, 3)), around(vec(-1, 0), vec(0, -2), vec(2, 0))} {
		for x := -9; x <= 9; x += 2 {
			for y := -8; y <= 10; y++ {
				for _, v := range []api.Vec{{}, {X: 16}, {X: -5, Y: 3}} {
					for reach := 1; reach < length(minus(a.S, a.C)); reach++ {
						expectConditions(t, fly(x, y, v.X, v.Y, 0, 0), a, reach, l)
					}
				}
			}
		}
	}
}

// P12.2: random arcs and Motions, at all sixteenths and at times before 0 and behind 1.
func TestRandomConditions(t *testing.T) {
	r := rand.New(rand.NewPCG(4, 12))
	l := moments()
	for range 250 {
		for _, n := range spans() {
			a := randomArc(r, n)
			reach := randomReach(r, a)
			expectConditions(t, passing(r, a, n, reach), a, reach, l)
		}
	}
}

// P12.2: the greatest arguments, with all signs, at all times and within the limits.
func TestGreatestConditions(t *testing.T) {
	l := moments()
	for k := range 64 {
		sign := func(i int) int { return 1 - k>>i&1*2 }
		m := fly(place*sign(0), place*sign(1), velocity*sign(2), velocity*sign(3), half*sign(4), half*sign(5))
		for _, a := range []api.Arc{
			around(vec(coord-size, coord-size), vec(size, 0), vec(0, size)), around(vec(-coord, size-coord), vec(0, -size), vec(size, 0)),
			around(vec(-coord, 0), vec(157284, -209712), vec(157284, 209712)), around(vec(70, -500), vec(160225, 0), vec(-160212, 2041)),
		} {
			reach := length(minus(a.S, a.C)) - 1
			expectConditions(t, m, a, reach, l[k%8:k%8+2])
			n := m
			n.P = a.S
			expectConditions(t, n, a, reach, l)
			n.P = vec(0, 0)
			expectConditions(t, n, a, 1, l)
		}
	}
}

// P12.2: reaches of 0, below 0, Q and beyond; those of 1 and Q - 1 have conjunctions, even if none ever holds.
func TestConditionsWithOtherReaches(t *testing.T) {
	for _, a := range append(arcs(), around(vec(4, 4), vec(1, 0), vec(0, 1))) {
		q := length(minus(a.S, a.C))
		for _, m := range []api.Motion{{}, {P: a.S, V: vec(1, 2)}, {P: a.C}, fly(-place, place, 0, 0, 0, 0)} {
			for _, reach := range append(beyond(q-1), 0, -1, -q, 1-q, q+1, 1<<19, 1<<19+1) {
				if reach < 1 || reach >= q {
					expect(t, len(arc.Conditions(m, a, reach)), 0, "the number of conjunctions of", m, a, reach)
				}
			}
			if q > 1 {
				expectConditions(t, m, a, 1, []*big.Rat{big.NewRat(0, 1), big.NewRat(1, 2)})
				expectConditions(t, m, a, q-1, []*big.Rat{big.NewRat(0, 1), big.NewRat(1, 2)})
			}
		}
	}
}

// P12.2: Motions that are not valid.
func TestConditionsOfOtherMotions(t *testing.T) {
	for _, m := range wrongs() {
		for _, a := range arcs() {
			for _, reach := range []int{1, 4, length(minus(a.S, a.C)) - 1, 0} {
				expect(t, len(arc.Conditions(m, a, reach)), 0, "the number of conjunctions of", m, a, reach)
			}
		}
	}
}
