package arc_test

import (
	"math"
	"math/big"
	"math/rand/v2"
	"testing"

	"pinball/api"
	"pinball/arc"
	"pinball/entry"
	"pinball/flight"
	"pinball/wall"
)

// P12.4: exchanging S and E and mirroring in X mirrors everything.
func TestMirroring(t *testing.T) {
	r := rand.New(rand.NewPCG(6, 12))
	l := moments()
	mirror := change{mirror: true}
	for range 200 {
		for _, n := range spans() {
			a := randomArc(r, n)
			b := mirror.arc(a)
			reach := randomReach(r, a)
			q, p, m := randomPlace(r, a, n), near(r, a, reach), passing(r, a, n, reach)
			before, _ := arc.Radius(a)
			after, _ := arc.Radius(b)
			expect(t, after, before, "Radius of", b)
			expect(t, arc.Sector(b, mirrored(q)), arc.Sector(a, q), "Sector of", b, mirrored(q))
			expect(t, arc.Inside(mirrored(p), b, reach), arc.Inside(p, a, reach), "Inside of", mirrored(p), b, reach)
			expect(t, arc.Normal(mirrored(q), b), mirrored(arc.Normal(q, a)), "Normal of", mirrored(q), b)
			x, y := arc.Conditions(mirror.motion(m), b, reach), arc.Conditions(m, a, reach)
			for _, at := range l {
				expect(t, holds(x, at), holds(y, at), "Conditions of", mirror.motion(m), b, reach, "at", at)
			}
		}
	}
}

// P12.1 to P12.3: only the positions of an arc matter.
func TestOtherFieldsDoNotMatter(t *testing.T) {
	a := api.Arc{C: vec(0, 0), S: vec(500, 0), E: vec(0, 500)}
	for _, b := range []api.Arc{quarter(), {Name: "", Level: math.MinInt, C: a.C, S: a.S, E: a.E, Rest: -1, Grip: math.MaxInt, Min: -1, Switch: 64}} {
		q, ok := arc.Radius(b)
		expect(t, q, 500, "Radius of", b)
		expect(t, ok, true, "Radius accepts", b)
		expect(t, arc.Sector(b, vec(1, 1)), true, "Sector of", b)
		expect(t, arc.Inside(vec(400, 400), b, 66), true, "Inside of", b)
		expect(t, arc.Normal(vec(9, 8), b), vec(-9, -8), "Normal of", b)
		expect(t, holds(arc.Conditions(api.Motion{P: vec(400, 400)}, b, 66), big.NewRat(0, 1)), true, "Conditions of", b)
	}
}

// P12.2: at the sixteenths at which a flight is at a whole position, the conditions hold exactly if this position is inside.
func TestConditionsAgreeWithInside(t *testing.T) {
	r := rand.New(rand.NewPCG(7, 12))
	for range 400 {
		for _, n := range spans()[:4] {
			a := randomArc(r, n)
			reach := randomReach(r, a)
			m := passing(r, a, n, reach)
			l := arc.Conditions(m, a, reach)
			for j := range api.Sixteenths + 1 {
				q := flight.At(m, j)
				p := vec(q.X>>8, q.Y>>8)
				if q == times(256, p) && max(p.X, -p.X, p.Y, -p.Y) <= field {
					expect(t, holds(l, big.NewRat(int64(j), api.Sixteenths)), arc.Inside(p, a, reach), "Conditions of", m, a, reach, "at", j)
				}
			}
		}
	}
}

// P12.2: the surroundings are those of the points of the arc: a position is inside if one of many
// points between the ends is nearer than reach, and outside if none is by far.
func TestInsideIsNearPoints(t *testing.T) {
	r := rand.New(rand.NewPCG(8, 12))
	for range 1500 {
		a := randomArc(r, spans()[1])
		reach := randomReach(r, a)
		p := near(r, a, reach)
		s, e := minus(a.S, a.C), minus(a.E, a.C)
		from, q := math.Atan2(float64(s.Y), float64(s.X)), float64(length(s))
		turn := math.Atan2(float64(s.X*e.Y-s.Y*e.X), float64(s.X*e.X+s.Y*e.Y))
		least := math.Inf(1)
		for k := range 1001 {
			sin, cos := math.Sincos(from + turn*float64(k)/1000)
			least = min(least, math.Hypot(float64(p.X-a.C.X)-q*cos, float64(p.Y-a.C.Y)-q*sin))
		}
		if least < float64(reach)-1e-6 || least > float64(reach)+0.6 {
			expect(t, arc.Inside(p, a, reach), least < float64(reach), "Inside of", p, a, reach)
		}
	}
}

// P12.3: outside of the surroundings, and wherever the normal is not zero, a small step along it leads away from the arc.
func TestNormalPointsAway(t *testing.T) {
	r := rand.New(rand.NewPCG(9, 12))
	for range 2000 {
		for _, n := range spans() {
			a := randomArc(r, n)
			q := randomPlace(r, a, n)
			v := arc.Normal(q, a)
			if v == (api.Vec{}) {
				continue
			}
			before := remoteness(a, big.NewRat(int64(q.X), 256), big.NewRat(int64(q.Y), 256))
			after := remoteness(a, big.NewRat(int64(q.X)<<28+int64(v.X), 1<<36), big.NewRat(int64(q.Y)<<28+int64(v.Y), 1<<36))
			if after.Cmp(before) <= 0 {
				t.Error("Normal of", q, a, "leads nearer:", v)
			}
		}
	}
}

// remoteness is a number that grows with the distance of (x, y) and the arc, if it stays on its side.
func remoteness(a api.Arc, x, y *big.Rat) *big.Rat {
	cx, cy := new(big.Rat).Sub(x, whole(a.C.X)), new(big.Rat).Sub(y, whole(a.C.Y))
	if faces(a, cx, cy) {
		q := whole(length(minus(a.S, a.C)))
		d := product(cx, cy, cx, cy)
		d.Sub(d, q.Mul(q, q))
		return d.Abs(d)
	}
	s, e := square(x, y, a.S), square(x, y, a.E)
	if s.Cmp(e) < 0 {
		return s
	}
	return e
}

// P12.2: a ball that is outside, and not equally near to both ends, has a normal that is not zero.
func TestNormalIsNotZero(t *testing.T) {
	r := rand.New(rand.NewPCG(10, 12))
	outside := 0
	for range 2000 {
		for _, n := range spans() {
			a := randomArc(r, n)
			p := near(r, a, randomReach(r, a))
			x, y := whole(p.X), whole(p.Y)
			if !arc.Inside(p, a, 1) && square(x, y, a.S).Cmp(square(x, y, a.E)) != 0 {
				outside++
				expect(t, arc.Normal(times(256, p), a) == vec(0, 0), false, "Normal is zero:", p, a)
			}
		}
	}
	if outside < 1000 {
		t.Error("only", outside, "positions outside")
	}
}

// P12.2: the times of entry of balls that come from both sides and to the ends.
func TestEntries(t *testing.T) {
	a := quarter()
	for _, o := range []struct {
		l     [][]api.Poly
		found bool
		at    int
	}{
		{arc.Conditions(fly(120, 160, 240, 320, 0, 0), a, 100), true, 8},
		{arc.Conditions(fly(480, 640, -480, -640, 0, 0), a, 100), true, 4},
		{arc.Conditions(fly(180, 240, 60, 80, 0, 0), a, 100), false, 0},
		{arc.Conditions(fly(240, 320, 4, -3, 0, 0), a, 100), true, 0},
		{arc.Conditions(fly(240, 320, 0, 0, -6, -8), a, 100), false, 0},
		{arc.Conditions(fly(340, -60, 320, 0, 0, 0), a, 100), true, 4},
		{arc.Conditions(fly(340, -100, 320, 0, 0, 0), a, 100), false, 0},
		{arc.Conditions(fly(200, 360, 160, -160, 0, 0), a, 100), true, 0},
		{arc.Conditions(fly(260, 300, 160, -160, 0, 0), a, 100), true, 6}, // inside the arc until 3/8
		{arc.Conditions(fly(-60, 340, 0, 320, 0, 0), a, 100), true, 4},
		{wall.Disc(fly(-60, 340, 0, 320, 0, 0), a.E, 100), true, 4},
	} {
		first, found, e := entry.First(o.l)
		expect(t, e, api.OK, "the error of First")
		expect(t, found, o.found, "First finds an entry")
		if found {
			n, e := entry.Sixteenth(first)
			expect(t, e, api.OK, "the error of Sixteenth")
			expect(t, n, o.at, "the sixteenth of the entry")
		}
	}
}
