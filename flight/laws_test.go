package flight_test

import (
	"math/rand/v2"
	"testing"

	"pinball/api"
	"pinball/flight"
)

// motions are valid ones, at the limits and random ones.
func motions() []api.Motion {
	l := bases()
	r := rand.New(rand.NewPCG(5, 10))
	for range 5000 {
		l = append(l, randomMotion(r))
	}
	return l
}

// P10.4: what a flight gains in energy is what its way does along its acceleration.
func TestEnergyLaw(t *testing.T) {
	for _, m := range motions() {
		p, v := flight.End(m)
		work := 4 * (m.H.X*(p.X-m.P.X) + m.H.Y*(p.Y-m.P.Y))
		expect(t, flight.Energy(v)-flight.Energy(m.V), work, "the gain of energy of", m)
		again := vec(m.V.X+2*m.H.X, m.V.Y+2*m.H.Y)
		expect(t, flight.Energy(again)-flight.Energy(m.V), work, "the gain of energy, without End, of", m)
	}
}

// P10.4: At begins and ends where the flight does.
func TestAtTheEnds(t *testing.T) {
	for _, m := range motions() {
		p, _ := flight.End(m)
		expect(t, flight.At(m, 0), vec(256*m.P.X, 256*m.P.Y), "At the beginning of", m)
		expect(t, flight.At(m, api.Sixteenths), vec(256*p.X, 256*p.Y), "At the end of", m)
	}
}

// P10.2: each position that At returns lies in the Box.
func TestBoxHoldsFlight(t *testing.T) {
	for _, m := range motions() {
		lo, hi := flight.Box(m)
		for j := range api.Sixteenths + 1 {
			q := flight.At(m, j)
			if q.X < 256*lo.X || q.X > 256*hi.X || q.Y < 256*lo.Y || q.Y > 256*hi.Y {
				t.Error("Box of", m, "does not hold the flight at", j, lo, hi, q)
			}
		}
	}
}

// T3: a Motion that is mirrored in X has mirrored results.
func TestMirrored(t *testing.T) {
	mirror := func(a api.Vec) api.Vec { return vec(-a.X, a.Y) }
	for _, m := range motions() {
		n := api.Motion{P: mirror(m.P), V: mirror(m.V), H: mirror(m.H)}
		p, v := flight.End(m)
		expectEnd(t, n, mirror(p), mirror(v))
		lo, hi := flight.Box(m)
		expectBox(t, n, vec(-hi.X, lo.Y), vec(-lo.X, hi.Y))
		expect(t, flight.At(n, 5), mirror(flight.At(m, 5)), "At of the mirrored", m)
		expect(t, flight.Stay(n.P), api.Motion{P: n.P}, "Stay of the mirrored", m.P)
		expect(t, flight.Energy(n.V), flight.Energy(m.V), "Energy of the mirrored", m.V)
	}
}
