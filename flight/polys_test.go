package flight_test

import (
	"math/rand/v2"
	"slices"
	"testing"

	"pinball/api"
	"pinball/flight"
)

// canonical is the canonical Poly with these coefficients, which have absolute values below 2^32.
func canonical(c ...int) api.Poly {
	for len(c) > 0 && c[len(c)-1] == 0 {
		c = c[:len(c)-1]
	}
	var p api.Poly
	for _, n := range c {
		var a api.Int
		if n != 0 {
			a = api.Int{Neg: n < 0, L: []uint32{uint32(max(n, -n))}}
		}
		p = append(p, a)
	}
	return p
}

// alike reports whether two polynomials have the same elements with the same limbs.
func alike(p, q api.Poly) bool {
	return slices.EqualFunc(p, q, func(a, b api.Int) bool { return a.Neg == b.Neg && slices.Equal(a.L, b.L) })
}

// expectPolys checks Polys.
func expectPolys(t *testing.T, m api.Motion, wantX, wantY api.Poly) {
	t.Helper()
	x, y := flight.Polys(m)
	if !alike(x, wantX) || !alike(y, wantY) {
		t.Error("Polys of", m, "is", x, y, "instead of", wantX, wantY)
	}
}

// P10.2: Polys, of written flights, of each degree.
func TestPolysOfExamples(t *testing.T) {
	one := func(n uint32) api.Int { return api.Int{L: []uint32{n}} }
	minus := func(n uint32) api.Int { return api.Int{Neg: true, L: []uint32{n}} }
	zero := api.Int{}
	expectPolys(t, api.Motion{}, nil, nil)
	expectPolys(t, fly(0, 0, 16, 0, 0, -4), api.Poly{zero, one(16)}, api.Poly{zero, zero, minus(4)})
	expectPolys(t, fly(-3, 5, 7, -8, 9, -1), api.Poly{minus(3), one(7), one(9)}, api.Poly{one(5), minus(8), minus(1)})
	expectPolys(t, fly(-3, 0, 0, 0, 0, 0), api.Poly{minus(3)}, nil)
	expectPolys(t, fly(0, 5, 0, 0, 0, 0), nil, api.Poly{one(5)})
	expectPolys(t, fly(1, 0, 0, -2, 3, 0), api.Poly{one(1), zero, one(3)}, api.Poly{zero, minus(2)})
	expectPolys(t, fly(place, -place, -velocity, velocity, half, -half), api.Poly{one(place), minus(velocity), one(half)}, api.Poly{minus(place), one(velocity), minus(half)})
}

// P10.2: Polys are canonical, whichever components are zero.
func TestPolysOfAllDegrees(t *testing.T) {
	for _, base := range append(bases()[1:], fly(2, -3, -5, 7, 11, -13)) {
		for k := range 64 {
			m := base
			for i, c := range components(&m) {
				*c.n *= k >> i & 1
			}
			expectPolys(t, m, canonical(m.P.X, m.V.X, m.H.X), canonical(m.P.Y, m.V.Y, m.H.Y))
		}
	}
	r := rand.New(rand.NewPCG(2, 10))
	for range 3000 {
		m := randomMotion(r)
		expectPolys(t, m, canonical(m.P.X, m.V.X, m.H.X), canonical(m.P.Y, m.V.Y, m.H.Y))
	}
}
