package poly_test

import (
	"math/big"
	"math/rand/v2"
	"slices"
	"testing"

	"pinball/api"
	"pinball/poly"
)

// checkSums compares Add, Sub and Mul with the sums of the standard library.
// The degree of the product is within the limit.
func checkSums(t *testing.T, m, o model, p, q api.Poly) {
	t.Helper()
	s, e := poly.Add(p, q)
	expect(t, "Add", s, e, m.plus(o))
	s, e = poly.Sub(p, q)
	expect(t, "Sub", s, e, m.plus(o.times(big.NewInt(-1))))
	s, e = poly.Mul(p, q)
	expect(t, "Mul", s, e, m.by(o))
}

// P2.2: Add, Sub and Mul, for polynomials of all forms; equal ones, whose
// difference is 0, and constants among them.
func TestSums(t *testing.T) {
	for _, m := range models() {
		for _, o := range models() {
			checkSums(t, m, o, m.poly(), o.poly())
			checkSums(t, m, o, rough(m.poly()), o.poly())
			checkSums(t, m, o, m.poly(), rough(o.poly()))
		}
	}
	a, b := ints(5, 1, 3), ints(2, 0, -3)
	s, e := poly.Add(a.poly(), b.poly())
	expect(t, "a sum of a lower degree", s, e, ints(7, 1))
}

// P2.2: Derive, for polynomials of all forms.
func TestDerive(t *testing.T) {
	for _, m := range models() {
		for _, p := range []api.Poly{m.poly(), rough(m.poly())} {
			d, e := poly.Derive(p)
			expect(t, "Derive", d, e, m.derived())
		}
	}
	d, e := poly.Derive(poly.Of(7, 5, 0, -2))
	expect(t, "Derive", d, e, ints(5, 0, -6))
}

// P2.2: results of degree MaxDegree, and of one more.
func TestSumsOfGreatDegrees(t *testing.T) {
	r := rand.New(rand.NewPCG(2, 2))
	full := fullModel(r, api.MaxDegree, 100)
	s, e := poly.Add(full.poly(), ints(1, 2).poly())
	expect(t, "Add", s, e, full.plus(ints(1, 2)))
	s, e = poly.Sub(full.poly(), full.poly())
	expect(t, "Sub", s, e, nil)
	d, e := poly.Derive(full.poly())
	expect(t, "Derive", d, e, full.derived())
	for i := range api.MaxDegree + 1 {
		m, o := fullModel(r, i, 50), fullModel(r, api.MaxDegree-i, 60)
		s, e = poly.Mul(m.poly(), o.poly())
		expect(t, "Mul", s, e, m.by(o))
		s, e = poly.Mul(m.poly(), rough(o.poly()))
		expect(t, "Mul of a rough form", s, e, m.by(o))
		s, e = poly.Mul(m.poly(), o.by(ints(0, 1)).poly())
		expectError(t, "Mul of a great degree", s, e, api.ErrSize)
	}
	s, e = poly.Mul(full.poly(), full.poly())
	expectError(t, "Mul of the greatest degrees", s, e, api.ErrSize)
	s, e = poly.Mul(full.poly(), rough(nil))
	expect(t, "Mul by 0", s, e, nil)
	s, e = poly.Mul(nil, full.poly())
	expect(t, "Mul of 0", s, e, nil)
}

// P2.2: results with elements of exactly MaxLimbs limbs, and of one more.
func TestSumsOfGreatElements(t *testing.T) {
	one, great := big.NewInt(1), ones(most)
	s, e := poly.Add(model{one, great}.poly(), model{great, minus(one)}.poly())
	expectError(t, "Add", s, e, api.ErrSize)
	s, e = poly.Add(model{one, great}.poly(), model{minus(great), minus(one)}.poly())
	expect(t, "Add", s, e, model{new(big.Int).Sub(one, great), new(big.Int).Sub(great, one)})
	s, e = poly.Sub(model{minus(great)}.poly(), model{one}.poly())
	expectError(t, "Sub", s, e, api.ErrSize)
	s, e = poly.Sub(model{great}.poly(), model{one, one}.poly())
	expect(t, "Sub", s, e, model{new(big.Int).Sub(great, one), minus(one)})
	d, e := poly.Derive(model{great, minus(great), ones(most - 1)}.poly())
	expect(t, "Derive", d, e, model{minus(great), new(big.Int).Sub(great, one)})
	d, e = poly.Derive(model{one, one, bit(most - 1)}.poly())
	expectError(t, "Derive", d, e, api.ErrSize)
	d, e = poly.Derive(model{one, one, minus(bit(most - 1)), one}.poly())
	expectError(t, "Derive", d, e, api.ErrSize)
	half := ones(most / 2)
	s, e = poly.Mul(model{half, half}.poly(), model{minus(half)}.poly())
	expect(t, "Mul", s, e, model{half, half}.by(model{minus(half)}))
	s, e = poly.Mul(model{half, half}.poly(), model{half, half}.poly()) // twice the product in the middle
	expectError(t, "Mul", s, e, api.ErrSize)
	s, e = poly.Mul(model{half, half}.poly(), model{minus(half), half}.poly())
	expect(t, "Mul", s, e, model{half, half}.by(model{minus(half), half}))
	s, e = poly.Mul(model{bit(most / 2)}.poly(), model{minus(bit(most / 2))}.poly())
	expectError(t, "Mul", s, e, api.ErrSize)
	s, e = poly.Mul(model{bit(most / 2)}.poly(), model{minus(bit(most/2 - 1))}.poly())
	expect(t, "Mul", s, e, model{minus(bit(most - 1))})
}

// P2.2: products that are not large, though a sum or a term on the way to them is.
func TestMulOfTermsThatCancel(t *testing.T) {
	f := new(big.Int).Quo(ones(most), big.NewInt(5))
	sums, signs := ints(3, -3, 1).times(f), ints(1, 1, -1) // -3 f, -6 f, -5 f in the middle
	first, second := model{bit(4097), ones(4097)}, model{minus(ones(4095)), bit(4095)}
	for _, c := range [][2]model{{sums, signs}, {first, second}} {
		for range 2 {
			for range 2 {
				m, o := c[0], c[1]
				s, e := poly.Mul(m.poly(), o.poly())
				expect(t, "Mul", s, e, m.by(o))
				s, e = poly.Mul(o.poly(), m.poly())
				expect(t, "Mul", s, e, m.by(o))
				slices.Reverse(c[0])
				slices.Reverse(c[1])
			}
			c[0] = c[0].times(big.NewInt(-1))
		}
	}
	s, e := poly.Mul(sums.plus(ints(0, 0, -1)).poly(), signs.poly()) // -5 f - 1
	expectError(t, "Mul", s, e, api.ErrSize)
}

// P2.2: large arguments, also where the result would not be large.
func TestSumsOfLargeArguments(t *testing.T) {
	for _, p := range largePolys() {
		for _, q := range []api.Poly{nil, rough(nil), poly.Of(1), poly.Of(0, 3), p} {
			for _, f := range []func(p, q api.Poly) (api.Poly, api.Errno){poly.Add, poly.Sub, poly.Mul} {
				s, e := f(p, q)
				expectError(t, "a large first argument", s, e, api.ErrSize)
				s, e = f(q, p)
				expectError(t, "a large second argument", s, e, api.ErrSize)
			}
		}
		d, e := poly.Derive(p)
		expectError(t, "Derive", d, e, api.ErrSize)
	}
}
