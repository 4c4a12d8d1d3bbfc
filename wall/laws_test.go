package wall_test

import (
	"math/big"
	"math/rand/v2"
	"testing"

	"pinball/api"
	"pinball/entry"
	"pinball/flight"
	"pinball/wall"
)

// P11.4: a ball outside of a set has a normal that is not zero: the normal is zero at
// the points of the segment alone.
func TestNormalIsNotZero(t *testing.T) {
	r := rand.New(rand.NewPCG(4, 11))
	outside := 0
	for range 2000 {
		for _, n := range sizes() {
			s := randomSegment(r, n.coord)
			q := s.randomPlace(r, n)
			on := s.square(big.NewRat(int64(q.X), 256), big.NewRat(int64(q.Y), 256)).Sign() == 0
			expect(t, wall.CapsuleNormal(q, s.a, s.b) == api.Vec{}, on, "CapsuleNormal is zero:", q, s)
			if p := vec(q.X/256, q.Y/256); q == vec(256*p.X, 256*p.Y) && !wall.InCapsule(p, s.a, s.b, 1) {
				outside++
				expect(t, on, false, "on the segment:", q, s)
			}
			expect(t, wall.DiscNormal(q, s.a) == api.Vec{}, q == vec(256*s.a.X, 256*s.a.Y), "DiscNormal is zero:", q, s.a)
		}
	}
	if outside < 1000 {
		t.Error("only", outside, "whole positions outside")
	}
}

// P11.3: a small step along the normal leads away from the segment.
func TestNormalPointsAway(t *testing.T) {
	r := rand.New(rand.NewPCG(5, 11))
	for range 1500 {
		for _, n := range sizes() {
			s := randomSegment(r, n.coord)
			q := s.randomPlace(r, n)
			v := wall.CapsuleNormal(q, s.a, s.b)
			if v == (api.Vec{}) {
				continue
			}
			before := s.square(big.NewRat(int64(q.X), 256), big.NewRat(int64(q.Y), 256))
			after := s.square(big.NewRat(int64(q.X)<<24+int64(v.X), 1<<32), big.NewRat(int64(q.Y)<<24+int64(v.Y), 1<<32))
			if after.Cmp(before) <= 0 {
				t.Error("CapsuleNormal of", q, s, "leads nearer:", v)
			}
		}
	}
}

// P11.1, P11.2: at the sixteenths at which a flight is at a whole position, the
// conditions hold exactly if this position is in the set.
func TestConditionsAgreeWithSets(t *testing.T) {
	r := rand.New(rand.NewPCG(6, 11))
	for range 400 {
		for _, n := range sizes()[:4] {
			s := randomSegment(r, n.coord)
			reach := 1 + r.IntN(n.reach)
			m := s.passing(r, n, reach)
			for j := range api.Sixteenths + 1 {
				q := flight.At(m, j)
				p := vec(q.X>>8, q.Y>>8)
				if q == vec(256*p.X, 256*p.Y) {
					at := big.NewRat(int64(j), api.Sixteenths)
					expect(t, holds(wall.Capsule(m, s.a, s.b, reach), at), wall.InCapsule(p, s.a, s.b, reach), "Capsule of", m, s, reach, "at", j)
					expect(t, holds(wall.Disc(m, s.a, reach), at), wall.InDisc(p, s.a, reach), "Disc of", m, s.a, reach, "at", j)
				}
			}
		}
	}
}

// P11.2: the entry of the contacts of the document's first two examples, and of one at a post.
func TestEntries(t *testing.T) {
	for _, o := range []struct {
		l     [][]api.Poly
		found bool
		at    int
	}{
		{wall.Capsule(fly(0, 150, 0, -100, 0, 0), vec(-500, 0), vec(500, 0), 100), true, 8},
		{wall.Capsule(fly(0, 150, 0, -50, 0, 0), vec(-500, 0), vec(500, 0), 100), false, 0},
		{wall.Capsule(fly(-560, -208, 0, 256, 0, 0), vec(-500, 0), vec(500, 0), 100), true, 8}, // at the end: 60 and 80
		{wall.Capsule(fly(0, 100, 10, 0, 0, -5), vec(-500, 0), vec(500, 0), 100), true, 0},
		{wall.Capsule(fly(0, 100, 10, 0, 0, 0), vec(-500, 0), vec(500, 0), 100), false, 0},
		{wall.Disc(fly(-340, 180, 320, 0, 0, 0), vec(0, 0), 300), true, 5}, // at 240 and 180
		{wall.Disc(fly(-340, 300, 320, 0, 0, 0), vec(0, 0), 300), false, 0},
	} {
		first, found, e := entry.First(o.l)
		expect(t, e, api.OK, "the error of First")
		expect(t, found, o.found, "First finds an entry")
		if found {
			n, e := entry.Sixteenth(first)
			expect(t, e, api.OK, "the error of Sixteenth")
			expect(t, n, o.at, "the sixteenth of the entry")
		}
	}
}
