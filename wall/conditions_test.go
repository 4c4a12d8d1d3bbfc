package wall_test

import (
	"math"
	"math/big"
	"math/rand/v2"
	"testing"

	"pinball/api"
	"pinball/entry"
	"pinball/flight"
)

// expectLimits checks that l has conjunctions, and that they are within the limits.
func expectLimits(t *testing.T, l [][]api.Poly, what ...any) {
	t.Helper()
	if len(l) < 1 || len(l) > 8 {
		t.Error(append(what, "has", len(l), "conjunctions")...)
	}
	for _, c := range l {
		for _, p := range c {
			if len(p)-1 > 4 {
				t.Error(append(what, "has the degree", len(p)-1)...)
			}
			for _, a := range p {
				if number(a).BitLen() > 200 {
					t.Error(append(what, "has a coefficient of", number(a).BitLen(), "bits")...)
				}
			}
		}
	}
	if _, _, e := entry.First(l); e != api.OK {
		t.Error(append(what, "makes First return", e)...)
	}
}

// times are all sixteenths of the tick, and some times between, before and behind them.
func times() []*big.Rat {
	var l []*big.Rat
	for j := -8; j <= 24; j++ {
		l = append(l, big.NewRat(int64(j), 16))
	}
	for _, n := range []int64{-5, -4, -3, -2, 2, 3, 4, 7, 30, -30, 1000, -1000, 1000000, -1000000} {
		l = append(l, big.NewRat(n, 1), big.NewRat(n, 7))
	}
	return l
}

// expectConditions checks what Disc and Capsule return against the position at all times.
func expectConditions(t *testing.T, m api.Motion, s segment, reach int, times []*big.Rat) {
	t.Helper()
	for _, d := range s.descriptions(m, reach) {
		expectLimits(t, d.l, d.name, "of", m, s, reach)
	}
	for _, at := range times {
		want := s.includes(coordinate(m.P.X, m.V.X, m.H.X, at), coordinate(m.P.Y, m.V.Y, m.H.Y, at), reach)
		for _, d := range s.descriptions(m, reach) {
			expect(t, holds(d.l, at), want, d.name, "of", m, s, reach, "at", at)
		}
	}
}

// span is an open interval of time, in sixteenths.
type span struct{ from, to int }

// passage is a Motion, with the times at which it is in a certain set.
type passage struct {
	m     api.Motion
	spans []span
}

// expectPassages checks those of one set, turned by right angles too.
func expectPassages(t *testing.T, s segment, reach int, l []passage) {
	t.Helper()
	for i, o := range l {
		for k := range 4 {
			m := api.Motion{P: turned(o.m.P, k), V: turned(o.m.V, k), H: turned(o.m.H, k)}
			u := segment{turned(s.a, k), turned(s.b, k)}
			for _, d := range u.descriptions(m, reach) {
				expectLimits(t, d.l, d.name, "of passage", i)
				for n := -320; n <= 320; n++ { // a time in 32ths
					in := false
					for _, w := range o.spans {
						in = in || (w.from == math.MinInt || 2*w.from < n) && (w.to == math.MaxInt || n < 2*w.to)
					}
					expect(t, holds(d.l, big.NewRat(int64(n), 32)), in, d.name, "of passage", i, "turned by", k, "at", n)
				}
			}
		}
	}
}

// always are all times.
func always() []span {
	return []span{{math.MinInt, math.MaxInt}}
}

// P11.2: Disc, and Capsule of a point, of written flights.
func TestPassagesOfDiscs(t *testing.T) {
	expectPassages(t, segment{vec(7, -3), vec(7, -3)}, 100, []passage{
		{fly(-193, -3, 200, 0, 0, 0), []span{{8, 24}}},       // enters within the tick
		{fly(-193, -3, 100, 0, 0, 0), []span{{16, 48}}},      // at its end
		{fly(-93, -3, 200, 0, 0, 0), []span{{0, 16}}},        // at its beginning
		{fly(7, -3, 0, 200, 0, 0), []span{{-8, 8}}},          // leaves
		{fly(-193, -3, 400, 0, 0, 0), []span{{4, 12}}},       // enters and leaves
		{fly(-113, 57, 640, 0, 0, 0), []span{{1, 5}}},        // from -80 to 80, at 60 above the middle
		{fly(-193, 97, 400, 0, 0, 0), nil},                   // touches in the middle of the tick
		{fly(-93, 97, 100, 0, 0, 0), nil},                    // at its end
		{fly(7, 122, 0, -100, 0, 100), nil},                  // comes down to the edge, and goes up again
		{fly(7, 109, 0, -64, 0, 64), []span{{4, 12}}},        // down to 4 below the edge
		{fly(7, -3, 0, 0, 100, 0), []span{{-16, 16}}},        // begins in the middle
		{fly(7, 97, 0, 0, 0, -8), []span{{-80, 0}, {0, 80}}}, // goes up to the edge, and down again
		{fly(2, 5, 1, 2, 0, 0), always()},                    // stays within
		{fly(300, 5, 1, 2, 0, 0), nil},                       // stays outside
		{fly(-93, -303, 200, 200, 0, 0), nil},                // passes by
		{fly(7, -3, 0, 0, 0, 0), always()},                   // does not move
		{fly(7, 96, 0, 0, 0, 0), always()},
		{fly(7, 97, 0, 0, 0, 0), nil},
		{fly(67, 77, 0, 0, 0, 0), nil}, // at (60, 80) from the middle
		{fly(67, 76, 0, 0, 0, 0), always()},
	})
}

// P11.2: Capsule of a segment along an axis, of written flights.
func TestPassagesOfCapsules(t *testing.T) {
	expectPassages(t, segment{vec(0, 0), vec(100, 0)}, 10, []passage{
		{fly(50, 50, 0, -80, 0, 0), []span{{8, 12}}},   // through the middle
		{fly(50, -90, 0, 80, 0, 0), []span{{16, 20}}},  // to its edge
		{fly(-20, 0, 160, 0, 0, 0), []span{{1, 13}}},   // along its line
		{fly(-6, -72, 0, 128, 0, 0), []span{{8, 10}}},  // in front of a
		{fly(106, 72, 0, -128, 0, 0), []span{{8, 10}}}, // in front of b
		{fly(0, 90, 0, -160, 0, 0), []span{{8, 10}}},   // through a
		{fly(100, 90, 0, -160, 0, 0), []span{{8, 10}}}, // through b
		{fly(-10, 90, 0, -160, 0, 0), nil},             // touches in front of a
		{fly(110, 90, 0, -160, 0, 0), nil},             // in front of b
		{fly(0, 10, 100, 0, 0, 0), nil},                // along the whole side
		{fly(0, -10, 100, 0, 0, 0), nil},
		{fly(-200, 10, 640, 0, 0, 0), nil},            // and beyond it
		{fly(50, 35, 0, -100, 0, 100), nil},           // from above
		{fly(50, 22, 0, -64, 0, 64), []span{{4, 12}}}, // down to 4 below the edge
		{fly(50, 10, 0, 0, 0, 1), nil},                // goes up from the edge
		{fly(-10, 0, -5, 0, 0, 0), []span{{-384, 0}}}, // goes away from a
		{fly(110, 0, 0, 0, 5, 0), nil},                // and from b
		{fly(50, 3, 1, 0, 0, 0), always()},            // stays within
		{fly(50, 13, 1, 0, 0, 0), nil},                // stays outside
		{fly(50, 9, 0, 0, 0, 0), always()},            // does not move
		{fly(50, -10, 0, 0, 0, 0), nil},
		{fly(108, 6, 0, 0, 0, 0), nil},
		{fly(107, 6, 0, 0, 0, 0), always()},
		{fly(0, 0, 0, 0, 0, 0), always()},    // at a
		{fly(100, -9, 0, 0, 0, 0), always()}, // beside b
	})
	expectPassages(t, segment{vec(0, 0), vec(100, 0)}, 4, []passage{
		{fly(50, 11, 0, -64, 0, 64), []span{{2, 6}, {10, 14}}}, // through it and back again
	})
}

// P11.2: Capsule of a slanted segment, of written flights.
func TestPassagesOfSlantedCapsules(t *testing.T) {
	expectPassages(t, segment{vec(300, 400), vec(0, 0)}, 5, []passage{
		{fly(142, 206, 16, -12, 0, 0), []span{{4, 12}}}, // across it, from (-8, 6) to (8, -6) around the middle
		{fly(146, 203, 300, 400, 0, 0), nil},            // along its side, at (-4, 3)
		{fly(147, 203, 3, 4, 0, 0), always()},           // nearer to it
		{fly(-6, -8, 48, 64, 0, 0), []span{{1, 103}}},   // along its line
		{fly(-11, 2, 16, -12, 0, 0), nil},               // in front of the lower end, touching at (-3, -4)
		{fly(292, 406, 16, -12, 0, 0), []span{{4, 12}}}, // through the upper end
		{fly(300, 405, -10, 0, 0, 0), nil},              // touching above it
		{fly(150, 200, 0, 0, 0, 0), always()},           // does not move
		{fly(146, 203, 0, 0, 0, 0), nil},
	})
}

// P11.2: short segments of several directions, with balls at many places around them, at rest and moving.
func TestShortFlights(t *testing.T) {
	for _, b := range []api.Vec{{}, {X: 4}, {Y: -3}, {X: 3, Y: 4}, {X: -2, Y: 4}, {X: 1, Y: -1}} {
		s := segment{vec(2, 1), vec(2+b.X, 1+b.Y)}
		for x := -5; x <= 9; x += 2 {
			for y := -7; y <= 10; y++ {
				for _, v := range []api.Vec{{}, {X: 16}, {X: -5, Y: 3}} {
					expectConditions(t, fly(x, y, v.X, v.Y, 0, 0), s, 5, []*big.Rat{big.NewRat(0, 1), big.NewRat(3, 16), big.NewRat(1, 2), big.NewRat(1, 1)})
				}
			}
		}
	}
}

// P11.2: random Motions near the edges of discs and capsules, compared with positions in rational numbers.
func TestConditionsOfRandomMotions(t *testing.T) {
	r := rand.New(rand.NewPCG(2, 11))
	l := times()
	for range 250 {
		for _, n := range sizes() {
			s := randomSegment(r, n.coord)
			reach := 1 + r.IntN(n.reach)
			expectConditions(t, s.passing(r, n, reach), s, reach, l)
		}
	}
}

// P11.2: the greatest arguments, with all signs, at all times and within the limits.
func TestGreatestConditions(t *testing.T) {
	l := times()
	for k := range 64 {
		sign := func(i int) int { return 1 - k>>i&1*2 }
		m := fly(place*sign(0), place*sign(1), velocity*sign(2), velocity*sign(3), half*sign(4), half*sign(5))
		for _, s := range []segment{
			{vec(-coord, -coord), vec(coord, coord)}, {vec(coord, -coord), vec(-coord, coord)}, {vec(coord, 1-coord), vec(-coord, coord)},
			{vec(coord, coord), vec(coord, coord)}, {vec(-coord, -coord), vec(-coord, coord)},
		} {
			for _, d := range s.descriptions(m, far) {
				expectLimits(t, d.l, d.name, "of", m, s)
			}
			expectConditions(t, m, s, 1, l[k%8:k%8+2])
		}
		m.P = vec(0, 0)
		expectConditions(t, m, segment{vec(-coord, coord), vec(coord, 1-coord)}, far, l)
		expectConditions(t, m, segment{vec(coord, -coord), vec(coord, -coord)}, far, l)
	}
}

// expectNone checks that there are no conjunctions.
func expectNone(t *testing.T, m api.Motion, s segment, reach int) {
	t.Helper()
	for _, d := range s.descriptions(m, reach) {
		expect(t, len(d.l), 0, "the number of conjunctions of", d.name, m, s, reach)
	}
}

// segments are of each kind.
func segments() []segment {
	return []segment{{}, {vec(5, -2), vec(5, -2)}, {vec(0, 0), vec(10, 0)}, {vec(0, 9), vec(0, 0)}, {vec(-10, -20), vec(10, 20)}, {vec(-coord, coord), vec(coord, coord)}, {vec(coord, coord), vec(coord, coord)}}
}

// P11.2: empty sets, and reaches that are not permitted; the greatest and the least ones that are have conjunctions.
func TestConditionsWithOtherReaches(t *testing.T) {
	for _, m := range []api.Motion{{}, fly(5, 0, 1, 2, 3, 4), fly(-place, 0, 0, 0, 0, 0)} {
		for _, s := range segments() {
			for _, reach := range reachesOut() {
				expectNone(t, m, s, reach)
			}
			for _, reach := range []int{1, 2, far - 1, far} {
				expectConditions(t, m, s, reach, []*big.Rat{big.NewRat(0, 1), big.NewRat(1, 2)})
			}
		}
	}
}

// P11.2: positions that are not permitted, in each of the places.
func TestConditionsWithOtherPositions(t *testing.T) {
	for _, p := range out(coord) {
		for _, reach := range []int{1, far} {
			m := flight.Stay(vec(max(-coord, min(p.X, coord)), max(-coord, min(p.Y, coord))))
			expectNone(t, m, segment{p, p}, reach)
			expectNone(t, m, segment{p, m.P}, reach)
			expectNone(t, m, segment{p, vec(-p.X, -p.Y)}, reach)
		}
	}
}

// P11.2: Motions that are not valid.
func TestConditionsOfOtherMotions(t *testing.T) {
	for _, m := range wrongs() {
		for _, s := range segments() {
			for _, reach := range []int{1, 50, far, 0} {
				expectNone(t, m, s, reach)
			}
		}
	}
}
