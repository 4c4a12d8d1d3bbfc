package flipper_test

import (
	"math/rand/v2"
	"testing"

	"pinball/api"
	"pinball/entry"
	"pinball/flight"
	"pinball/flipper"
)

// P13.5: mirroring a flipper and its surroundings, in X by Mirror and in Y by the signs of the tangents, mirrors everything.
func TestMirroring(t *testing.T) {
	r := rand.New(rand.NewPCG(6, 13))
	l := moments()
	for range 60 {
		for _, n := range spans() {
			x := draw(r, n)
			p, m, j := x.near(r, ratio(x.from, quarter)), x.passing(r, n), r.IntN(17)
			q := x.fineNear(r, j)
			for _, c := range changes() {
				y := lot{c.flipper(x.f), c.angle(x.from), c.angle(x.to), x.reach}
				d, length := flipper.Direction(x.f, x.from)
				e, other := flipper.Direction(y.f, y.from)
				expect(t, e, c.of(d), "d of", y)
				expect(t, other, length, "n of", y)
				expect(t, flipper.Inside(c.of(p), y.f, y.from, y.reach), flipper.Inside(p, x.f, x.from, x.reach), "Inside of", p, y)
				expect(t, flipper.Foot(c.of(q), y.f, y.from, y.to, j), c.of(flipper.Foot(q, x.f, x.from, x.to, j)), "Foot of", q, y, j)
				expect(t, flipper.Normal(c.of(q), y.f, y.from, y.to, j), c.of(flipper.Normal(q, x.f, x.from, x.to, j)), "Normal of", q, y, j)
				expect(t, flipper.Surface(c.of(q), y.f, y.from, y.to), c.of(flipper.Surface(q, x.f, x.from, x.to)), "Surface of", q, y)
				a, b := flipper.Conditions(c.motion(m), y.f, y.from, y.to, y.reach), flipper.Conditions(m, x.f, x.from, x.to, x.reach)
				for _, when := range l {
					expect(t, holds(a, when), holds(b, when), "Conditions of", m, y, "at", when)
				}
			}
		}
	}
}

// P13.5: a mirrored flipper moves as its image does, and a flipper at rest has no surface velocity.
func TestMirroredMotionAndRest(t *testing.T) {
	r := rand.New(rand.NewPCG(7, 13))
	for range 1000 {
		for _, n := range spans() {
			x := draw(r, n)
			y := changes()[1].flipper(x.f)
			speed, on := some(r, swift), r.IntN(2) == 0
			k, next := flipper.Next(x.f, x.from, speed, on)
			l, other := flipper.Next(y, x.from, speed, on)
			expect(t, [2]int{l, other}, [2]int{k, next}, "Next of", y, x.from, speed, on)
			expect(t, flipper.Surface(anywhere(r, small), x.f, x.from, x.from), vec(0, 0), "Surface of", x)
		}
	}
}

// P13.1: Next stays between Low and High with a speed of at most Max, once it is there, and its new k is the old one plus the new speed unless an end is passed.
func TestNextStaysInRange(t *testing.T) {
	r := rand.New(rand.NewPCG(8, 13))
	for range 300 {
		f := bat(vec(0, 0), 500)
		f.Low = -quarter + r.IntN(500)
		f.High = min(f.Low+1+r.IntN(300), quarter)
		f.Up, f.Down, f.Max = 1+r.IntN(swift), 1+r.IntN(swift), 1+r.IntN(swift)
		k, speed := f.Low+r.IntN(f.High-f.Low+1), r.IntN(2*f.Max+1)-f.Max
		for range 50 {
			next, then := flipper.Next(f, k, speed, r.IntN(3) > 0)
			if next < f.Low || next > f.High || then > f.Max || then < -f.Max {
				t.Error("Next of", f, k, speed, "is", next, then)
			}
			if then != 0 {
				expect(t, next, k+then, "the k of Next of", f, k, speed)
			}
			k, speed = next, then
		}
	}
}

// P13.2: at the sixteenths at which a flight is at a whole position and the tangent is whole, the conditions hold exactly if this position is inside.
func TestConditionsAgreeWithInside(t *testing.T) {
	r := rand.New(rand.NewPCG(9, 13))
	compared := 0
	for range 400 {
		for _, n := range spans() {
			x := draw(r, n)
			m := x.passing(r, n)
			l := flipper.Conditions(m, x.f, x.from, x.to, x.reach)
			for j := range api.Sixteenths + 1 {
				q := flight.At(m, j)
				p := vec(q.X>>8, q.Y>>8)
				if q == times(256, p) && (x.to-x.from)*j%16 == 0 && max(p.X, -p.X, p.Y, -p.Y) <= field {
					compared++
					expect(t, holds(l, ratio(j, 16)), flipper.Inside(p, x.f, x.from+(x.to-x.from)*j/16, x.reach), "Conditions of", m, x, "at", j)
				}
			}
		}
	}
	if compared < 4000 {
		t.Error("only", compared, "positions are compared")
	}
}

// P13.2 and P13.3: a place is moved together with the flipper.
func TestShifting(t *testing.T) {
	r := rand.New(rand.NewPCG(10, 13))
	for range 500 {
		for _, n := range spans()[:3] {
			x := draw(r, n)
			p, m, j := x.near(r, ratio(x.from, quarter)), x.passing(r, n), r.IntN(17)
			q, by := x.fineNear(r, j), anywhere(r, coord-2000)
			y, o := x, m
			y.f.P, o.P = plus(x.f.P, by), plus(m.P, by)
			expect(t, flipper.Inside(plus(p, by), y.f, y.from, y.reach), flipper.Inside(p, x.f, x.from, x.reach), "Inside of", p, y)
			expect(t, flipper.Foot(plus(q, times(256, by)), y.f, y.from, y.to, j), flipper.Foot(q, x.f, x.from, x.to, j), "Foot of", q, y, j)
			expect(t, flipper.Normal(plus(q, times(256, by)), y.f, y.from, y.to, j), flipper.Normal(q, x.f, x.from, x.to, j), "Normal of", q, y, j)
			a, b := flipper.Conditions(o, y.f, y.from, y.to, y.reach), flipper.Conditions(m, x.f, x.from, x.to, x.reach)
			for _, when := range moments()[:17] {
				expect(t, holds(a, when), holds(b, when), "Conditions of", o, y, "at", when)
			}
		}
	}
}

// P13.2 and P13.3: a ball that is outside has a normal that is not zero, and that leads away from the blade.
func TestNormalLeadsAway(t *testing.T) {
	r := rand.New(rand.NewPCG(11, 13))
	outside := 0
	for range 1500 {
		for _, n := range spans() {
			x := draw(r, n)
			p := x.near(r, ratio(x.from, quarter))
			if flipper.Inside(p, x.f, x.from, 1) || max(p.X, -p.X, p.Y, -p.Y) > field {
				continue
			}
			outside++
			v := flipper.Normal(times(256, p), x.f, x.from, x.to, 0)
			q := at(minus(p, x.f.P), 1)
			away := q.less(nearest(x.f, ratio(x.from, quarter), q))
			expect(t, away.dot(at(v, 1)).Sign(), 1, "the sign of Normal along the way from the blade of", p, x)
		}
	}
	if outside < 4000 {
		t.Error("only", outside, "positions outside")
	}
}

// P13.2: a ball that rests where a blade has passed is found at the sixteenth of the entry.
func TestSixteenthsOfEntries(t *testing.T) {
	for _, o := range []struct {
		from, to int
		m        api.Motion
		j        int
	}{
		{0, quarter, fly(70, 260, 0, 0, 0, 0), 8}, {0, quarter, fly(300, 400, 0, 0, 0, 0), 6}, {0, quarter, fly(250, 100, 0, 0, 0, 0), 0}, {0, quarter, fly(100, 250, 0, 0, 0, 0), 6}, {quarter, 0, fly(230, 140, 0, 0, 0, 0), 8}, {0, 0, fly(250, 150, 0, -100, 0, 0), 8}, {0, 16, fly(400, 150, 0, -4, 0, 0), 14}, {-16, 0, fly(400, 150, 0, -8, 0, 0), -1},
	} {
		first, found, e := entry.First(flipper.Conditions(o.m, bat(vec(0, 0), 500), o.from, o.to, 100))
		expect(t, e, api.OK, "the error of First")
		expect(t, found, o.j >= 0, "First finds an entry of", o.from, o.to, o.m)
		if found {
			j, e := entry.Sixteenth(first)
			expect(t, e, api.OK, "the error of Sixteenth")
			expect(t, j, o.j, "the sixteenth of", o.from, o.to, o.m)
		}
	}
}
