package poly_test

import (
	"math"
	"math/big"
	"testing"

	"pinball/api"
	"pinball/poly"
)

// sized are models that are not large, at the limit, and large.
func sized() []model {
	l := append(models(), limitModels()...)
	for _, p := range largePolys()[:6] {
		m := make(model, len(p))
		for i, a := range p {
			m[i] = value(a)
		}
		l = append(l, m)
	}
	return append(l, ints(make([]int64, 5000)...), append(ints(make([]int64, 5000)...), bit(20000)))
}

// P2.1: Trim, for polynomials of all forms and of any size.
func TestTrim(t *testing.T) {
	for _, m := range sized() {
		expect(t, "Trim", poly.Trim(m.poly()), api.OK, m)
		expect(t, "Trim of a rough form", poly.Trim(rough(m.poly())), api.OK, m)
	}
	for _, p := range []api.Poly{nil, {}, {{}}, {{Neg: true}, {L: []uint32{0, 0}}}} {
		if z := poly.Trim(p); len(z) != 0 {
			t.Error("Trim of the zero polynomial:", z)
		}
	}
}

// P2.1: Degree, for polynomials of all forms and of any size.
func TestDegree(t *testing.T) {
	for _, m := range sized() {
		for _, p := range []api.Poly{m.poly(), rough(m.poly())} {
			if d := poly.Degree(p); d != len(m.cut())-1 {
				t.Error("Degree:", d, m)
			}
		}
	}
	for _, p := range []api.Poly{nil, {}, {{}}, {{Neg: true}, {L: []uint32{0, 0}}}} {
		if d := poly.Degree(p); d != -1 {
			t.Error("Degree of the zero polynomial:", d)
		}
	}
}

// P2.1: Of takes any number of coefficients, and zeros at the end.
func TestOf(t *testing.T) {
	long := make([]int, 300)
	want := make([]int64, 300)
	for i := range long {
		long[i], want[i] = i-3, int64(i-3)
	}
	expect(t, "Of many", poly.Of(long...), api.OK, ints(want...))
	expect(t, "Of none", poly.Of(), api.OK, nil)
	expect(t, "Of zeros", poly.Of(0, 0, 0), api.OK, nil)
	expect(t, "Of one", poly.Of(-5), api.OK, ints(-5))
	expect(t, "Of zeros at the end", poly.Of(0, 7, 0, -2, 0, 0), api.OK, ints(0, 7, 0, -2))
	expect(t, "Of the least and the greatest int", poly.Of(math.MinInt, math.MaxInt), api.OK, model{big.NewInt(math.MinInt), big.NewInt(math.MaxInt)})
	long = []int{1, 2, 3}
	p := poly.Of(long...)
	long[0] = 9
	expect(t, "Of keeps its arguments", p, api.OK, ints(1, 2, 3))
}
