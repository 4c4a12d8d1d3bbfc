package flight_test

import (
	"testing"

	"pinball/api"
	"pinball/flight"
)

// spoil writes into all memory of a number.
func spoil(a api.Int) {
	l := a.L[:cap(a.L)]
	for i := range l {
		l[i] = 0x5a5a5a5a
	}
}

// R3: writing into one element of a result of Polys, or appending to it, reaches no
// other element, not the other result, and nothing that another call returns.
func TestResultsAreNew(t *testing.T) {
	for _, m := range []api.Motion{
		{}, fly(1, 1, 1, 1, 1, 1), fly(-5, -5, 0, 0, 0, 0), fly(0, 0, 16, 0, 0, -4), fly(0, 2, 0, 2, 7, 0), fly(3, -4, 3, -4, 3, -4),
		fly(place, -place, -velocity, velocity, half, -half), fly(place+1, 0, 0, 0, 0, 0),
	} {
		wantX, wantY := flight.Polys(m)
		x, y := flight.Polys(m)
		for k, p := range []api.Poly{x, y} {
			want := []api.Poly{wantX, wantY}[k]
			for i := range p {
				spoil(p[i])
				p[i] = want[i]
				if !alike(p, want) {
					t.Error("an element shares memory with another:", m, i)
				}
			}
			p = append(p, api.Int{L: []uint32{99}})
			clear(p[:cap(p)])
			if k == 0 && !alike(y, wantY) {
				t.Error("a result shares memory with the other one:", m)
			}
		}
		expectPolys(t, m, wantX, wantY)
	}
}

// R3, R5: a Motion stays as it is, and the same one has the same results again.
func TestArgumentsStay(t *testing.T) {
	for _, m := range append(motions()[:200], wrongs()...) {
		before := m
		for range 2 {
			p, v := flight.End(m)
			lo, hi := flight.Box(m)
			x, y := flight.Polys(m)
			at := flight.At(m, 3)
			expect(t, m, before, "the Motion")
			expectEnd(t, before, p, v)
			expectBox(t, before, lo, hi)
			expectPolys(t, before, x, y)
			expect(t, flight.At(before, 3), at, "At of", m)
		}
	}
}
