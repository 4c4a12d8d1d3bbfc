package poly_test

import (
	"math/big"
	"math/rand/v2"
	"testing"

	"pinball/api"
	"pinball/poly"
)

// checkRem compares Rem with the remainder in rational numbers.
func checkRem(t *testing.T, m, o model) {
	t.Helper()
	want := m.remainder(o)
	r, e := poly.Rem(m.poly(), o.poly())
	expect(t, "Rem", r, e, want)
	r, e = poly.Rem(rough(m.poly()), rough(o.poly()))
	expect(t, "Rem of rough forms", r, e, want)
}

// P2.5: Rem, for polynomials of all forms: any signs, a divisor of a greater
// degree, constants and 0 among them.
func TestRem(t *testing.T) {
	for _, m := range models() {
		for _, o := range models() {
			if len(o) > 0 {
				checkRem(t, m, o)
			}
		}
	}
	for _, c := range []struct{ p, q, want model }{
		{ints(0, 0, 1), ints(-1, 1), ints(1)},
		{ints(0, 0, -1), ints(-1, 2), ints(-1)},
		{ints(0, 0, -1), ints(1, -2), ints(-1)},
		{ints(4, 6), ints(0, 0, -5), ints(2, 3)},
		{ints(-4, -6), ints(0, 0, 5), ints(-2, -3)},
		{ints(4, 6), ints(-3), nil},
		{ints(1, 2, 1), ints(-1, -1), nil},
		{ints(5, 0, 0, 3), ints(0, 1), ints(1)},
		{nil, ints(7), nil},
	} {
		r, e := poly.Rem(c.p.poly(), c.q.poly())
		expect(t, "Rem", r, e, c.want)
	}
}

// P2.5: Rem of multiples is 0, whatever the signs.
func TestRemOfMultiples(t *testing.T) {
	r := rand.New(rand.NewPCG(10, 10))
	for i := range 60 {
		q, s, rest := fullModel(r, i%7, 1+i*7), fullModel(r, i%9, 300), randomModel(r, i%7-1, 60)
		p, e := poly.Rem(q.by(s).poly(), q.poly())
		expect(t, "Rem of a multiple", p, e, nil)
		p, e = poly.Rem(q.by(s).plus(rest).poly(), q.poly())
		expect(t, "Rem of a multiple and a rest", p, e, rest.primitive())
	}
}

// P2.5: the errors, in their order.
func TestRemErrors(t *testing.T) {
	for _, p := range largePolys() {
		for _, q := range []api.Poly{nil, rough(nil), poly.Of(1), poly.Of(3, 1), p} {
			r, e := poly.Rem(p, q)
			expectError(t, "Rem of a large polynomial", r, e, api.ErrSize)
			r, e = poly.Rem(q, p)
			expectError(t, "Rem by a large polynomial", r, e, api.ErrSize)
		}
	}
	for _, m := range append(models(), limitModels()...) {
		for _, q := range []api.Poly{nil, {}, {{}}, rough(nil)} {
			r, e := poly.Rem(m.poly(), q)
			expectError(t, "Rem by 0", r, e, api.ErrZero)
		}
	}
}

// P2.5: remainders that are not large, though numbers on the way to them are.
func TestRemOnAWideWay(t *testing.T) {
	r := rand.New(rand.NewPCG(11, 11))
	one := big.NewInt(1)
	for _, n := range []int{100, 4000, 4096, 5000, most} {
		for _, lead := range []*big.Int{ones(n), minus(ones(n)), bit(n - 1)} {
			for degree := 2; degree <= api.MaxDegree; degree += 7 {
				power := ints(0, 1).power(degree)
				checkRem(t, power.plus(ints(1)), model{one, lead})
				checkRem(t, power.times(big.NewInt(-1)).plus(ints(0, -1)), model{minus(one), lead})
				checkRem(t, power.times(big.NewInt(-1)), model{lead, one})
			}
		}
	}
	for _, n := range []int{200, 1000, 2000} { // a factor of 3 n and more digits is left out
		for i := range 4 {
			q, s, rest := fullModel(r, 3, n), fullModel(r, 2+i, n), fullModel(r, 2, 50+n)
			checkRem(t, q.by(s).plus(rest), q)
			checkRem(t, q.by(s).times(big.NewInt(3)).plus(rest.times(bit(900))), q)
		}
	}
	m := fullModel(r, 9, 480) // its chain has long elements, and a constant at the end
	for o := m.derived().primitive(); len(o) > 0; {
		checkRem(t, m, o)
		m, o = o, m.remainder(o)
	}
}

// P2.5: remainders with elements of exactly MaxLimbs limbs, and of one more.
func TestRemAtTheLimit(t *testing.T) {
	// The remainder of x^3 + d x and x^2 + b x + c is (b^2 - c + d) x + b c.
	b := bit(most / 2)
	rest := func(c, d *big.Int) (p, q, want model) {
		p, q = model{new(big.Int), d, new(big.Int), big.NewInt(1)}, model{c, b, big.NewInt(1)}
		return p, q, p.remainder(q)
	}
	p, q, want := rest(bit(most/2-1), minus(ones(most)))
	if want[0].BitLen() != most {
		t.Fatal("the test's remainder has", want[0].BitLen(), "digits")
	}
	r, e := poly.Rem(p.poly(), q.poly())
	expect(t, "Rem up to the limit", r, e, want)
	p, q, want = rest(minus(bit(most/2-1)), minus(ones(most)))
	r, e = poly.Rem(p.poly(), q.poly())
	expect(t, "Rem down to the limit", r, e, want)
	p, q, _ = rest(bit(most/2), minus(ones(most)))
	r, e = poly.Rem(p.poly(), q.poly())
	expectError(t, "Rem beyond the limit", r, e, api.ErrSize)
	p, q, want = rest(bit(most/2), minus(bit(most-1))) // large, but for its content
	r, e = poly.Rem(p.poly(), q.poly())
	expect(t, "Rem with a content", r, e, want)

	// The same remainder with a content, by which it is large until it is reduced.
	b = ones(most / 2)
	p, q, want = rest(b, big.NewInt(-1))
	r, e = poly.Rem(p.poly(), q.times(ones(100)).poly())
	expect(t, "Rem up to the limit with a content", r, e, want)
	if want[0].BitLen() != most || want.content().BitLen() != 1 {
		t.Fatal("the test's remainder has", want[0].BitLen(), "digits")
	}

	random := rand.New(rand.NewPCG(12, 12))
	for _, n := range []int{15, 13, 8, 2} {
		r, e = poly.Rem(fullModel(random, api.MaxDegree, most).poly(), fullModel(random, n, most).poly())
		expectError(t, "Rem of the greatest polynomials", r, e, api.ErrSize)
	}
	r, e = poly.Rem(fullModel(random, api.MaxDegree, most).poly(), fullModel(random, 0, most).poly())
	expect(t, "Rem by a constant", r, e, nil)
	m := fullModel(random, 1, most)
	r, e = poly.Rem(m.poly(), ints(0, 0, 1).poly())
	expect(t, "Rem by a greater degree", r, e, m.primitive())
}

// checkGcd compares Gcd with the divisor that Euclid finds in rational numbers.
func checkGcd(t *testing.T, m, o model) {
	t.Helper()
	want := m.common(o)
	g, e := poly.Gcd(m.poly(), o.poly())
	expect(t, "Gcd", g, e, want)
	g, e = poly.Gcd(rough(o.poly()), m.poly())
	expect(t, "Gcd, exchanged", g, e, want)
}

// P2.6: Gcd, for polynomials of all forms: constants and 0 among them.
func TestGcd(t *testing.T) {
	for _, m := range models() {
		for _, o := range models() {
			checkGcd(t, m, o)
		}
	}
	for _, c := range []struct{ p, q, want model }{
		{nil, nil, nil},
		{nil, ints(-6), ints(1)},
		{ints(6), ints(4), ints(1)},
		{nil, ints(6, -4), ints(-3, 2)},
		{ints(-1, 0, 1), ints(-2, 2), ints(-1, 1)},
		{ints(-1, 0, 1), ints(2, -2), ints(-1, 1)},
		{ints(5, 10), ints(0, 3), ints(1)},
	} {
		g, e := poly.Gcd(c.p.poly(), c.q.poly())
		expect(t, "Gcd", g, e, c.want)
	}
}

// P2.6: Gcd of polynomials with a common divisor.
func TestGcdOfMultiples(t *testing.T) {
	r := rand.New(rand.NewPCG(13, 13))
	for i := range 120 {
		g, m, o := randomModel(r, 4, 5+i), randomModel(r, 4, 60), randomModel(r, 4, 80)
		checkGcd(t, g.by(m), g.by(o))
		checkGcd(t, g.by(m), g)
	}
	checkGcd(t, roots(1, 1, 2, 3, 5, 8, 8, 8, 9, -1, -2, -3, -4, -5, -6, -7), roots(8, 8, 1, 1, 1, -7, 10, 11))
}

// P2.6: up to degree 8 and 200 bits, neither Gcd nor Free has an error.
func TestDivisorsWithinTheirRange(t *testing.T) {
	r := rand.New(rand.NewPCG(14, 14))
	for i := range 12 {
		m, o := fullModel(r, 8, 200), fullModel(r, 8-i%3, 200)
		checkGcd(t, m, o)
		checkFree(t, m)
		g := fullModel(r, 1+i%4, 90)
		checkGcd(t, g.by(fullModel(r, 4, 100)), g.by(fullModel(r, 3, 100)))
		checkFree(t, g.by(g))
	}
}

// checkFree compares Free with the quotient in rational numbers.
func checkFree(t *testing.T, m model) {
	t.Helper()
	want := m.free()
	f, e := poly.Free(m.poly())
	expect(t, "Free", f, e, want)
	f, e = poly.Free(rough(m.poly()))
	expect(t, "Free of a rough form", f, e, want)
}

// P2.6: Free, for polynomials of all forms: constants and 0 among them.
func TestFree(t *testing.T) {
	for _, m := range models() {
		checkFree(t, m)
	}
	for _, c := range []struct{ p, want model }{
		{nil, nil},
		{ints(1), ints(1)},
		{ints(-30), ints(1)},
		{model{ones(most)}, ints(1)},
		{ints(6, -4), ints(-3, 2)},
		{ints(0, 0, -4, 4), ints(0, -1, 1)},
		{ints(0, 0, 4, -4), ints(0, -1, 1)},
		{roots(7).power(api.MaxDegree), roots(7)},
		{ints(3, -2).power(15), ints(-3, 2)},
		{ints(1, 0, 1).power(8), ints(1, 0, 1)},
		{ints(0, 1).power(16).times(ones(most)), ints(0, 1)},
		{roots(1, 2, 2, 3, 3, 3, 4, 4, 4, 4, 5, 5, 5, 5, 5, -1), roots(1, 2, 3, 4, 5, -1)},
		{roots(1, 2, 3, 4, 5, 6, 7, 8, 9, 10, 11, 12, 13, 14, 15, 16), roots(1, 2, 3, 4, 5, 6, 7, 8, 9, 10, 11, 12, 13, 14, 15, 16)},
	} {
		f, e := poly.Free(c.p.poly())
		expect(t, "Free", f, e, c.want)
	}
}

// P2.6: Free of polynomials with repeated roots, real ones and others.
func TestFreeOfPowers(t *testing.T) {
	r := rand.New(rand.NewPCG(15, 15))
	for i := range 40 {
		m, o := fullModel(r, 1+i%2, 1+i), fullModel(r, i%3, 30)
		checkFree(t, m.by(m).by(o))
		checkFree(t, m.power(4).times(big.NewInt(-6)))
		checkFree(t, m.power(3).by(o.power(2)))
	}
	checkFree(t, fullModel(r, 1, most))
}

// P2.6: beyond the range Gcd may have an error, but returns nothing wrong.
func TestGcdBeyondItsRange(t *testing.T) {
	r := rand.New(rand.NewPCG(21, 21))
	one := big.NewInt(1)
	for _, m := range append(limitModels(), fullModel(r, api.MaxDegree, 220), fullModel(r, 12, 500), model{one, one, bit(most - 1)}, model{one, ones(most / 2)}.power(2)) {
		o := fullModel(r, len(m)/2, 600)
		g, e := poly.Gcd(m.poly(), o.poly())
		if e != api.OK {
			expectError(t, "Gcd", g, e, api.ErrSize)
		} else {
			expect(t, "Gcd", g, e, m.common(o))
		}
	}
}

// P2.6: Free has no error beyond the range either, unless its result is large.
func TestFreeBeyondItsRange(t *testing.T) {
	r := rand.New(rand.NewPCG(22, 22))
	one, top := big.NewInt(1), bit(most-1)
	check := func(m, want model) {
		t.Helper()
		f, e := poly.Free(m.poly())
		expect(t, "Free", f, e, want.primitive().upright())
	}
	for _, m := range []model{{one, one, top}, {one, minus(ones(most)), top}, fullModel(r, api.MaxDegree, most), fullModel(r, 12, 500), {minus(ones(most)), one}} {
		check(m, m)
	}
	check(ints(0, 1).power(api.MaxDegree).times(ones(most)), ints(0, 1))
	check(model{one, ones(most / 2)}.power(2), model{one, ones(most / 2)})
	// The derivative, or a remainder on the way, is large.
	line := model{big.NewInt(-3), new(big.Int).Sub(top, one)}
	check(line.by(roots(-1, -1)), line.by(roots(-1)))
	m := fullModel(r, 3, 2500)
	check(m.power(2), m)
	check(m.power(3), m)
	check(m.by(roots(7, 7, 7)).times(big.NewInt(-5)), m.by(roots(7)))
	// The elements of what is left without the second root 1 are sums of those of the whole.
	rest := ints(1, 2, 3, 2, 1, 0, -1, -2, -3, -2, -1).times(top).plus(roots(1))
	f, e := poly.Free(rest.by(roots(1)).poly())
	expectError(t, "Free with a large result", f, e, api.ErrSize)
	if p, e := poly.Primitive(rest.by(roots(1)).poly()); e != api.OK || !same(p, rest.by(roots(1))) {
		t.Error("the test's polynomial is large")
	}
}

// P2.6: numbers that look alike to whoever counts modulo a prime.
func TestFreeOfResidues(t *testing.T) {
	r := rand.New(rand.NewPCG(23, 23))
	n := int64(1<<31 - 1)
	for _, m := range []model{
		roots(5, 5+n), roots(0, n, -n), roots(5, 5+n, 5+n), ints(1, n), ints(1, 2, n), ints(n, n, 1), ints(0, n, 1), ints(0, 0, 1, n),
		roots(3, 3).by(ints(1, n)), roots(3, 3).by(ints(n, 1)), roots(3, 3, 4).by(ints(1, 0, 1)), ints(n-1, 0, 1), ints(-1, 1, n-1), ints(-n, n, -2*n, 1),
	} {
		checkFree(t, m)
		checkFree(t, m.times(big.NewInt(-n)))
		checkFree(t, m.by(fullModel(r, 2, 40)))
		checkFree(t, m.by(m).by(ints(-2, n)))
	}
}

// P2.6: the same for divisors of two polynomials.
func TestGcdOfResidues(t *testing.T) {
	n := int64(1<<31 - 1)
	for _, c := range []struct{ p, q, want model }{
		{ints(2, 1), ints(2+n, 1), ints(1)},
		{ints(-2, 1, 3), ints(-2-n, 1+n, 3-n), ints(1)},
		{ints(1, n).by(ints(2, 1)), ints(1, n).by(ints(3, 1)), ints(1, n)},
		{ints(1, 1, n).by(ints(2, 1)), ints(1, 1, n).by(ints(3, 1, 2)), ints(1, 1, n)},
		{ints(1, n), ints(1, n, n), ints(1)},
		{ints(5, 1).by(ints(2, n)), ints(5, 1).by(ints(3, n)), ints(5, 1)},
		{ints(5, 1), ints(5, 1).by(ints(3, n)), ints(5, 1)},
		{ints(n, 1), ints(0, 1), ints(1)},
		{ints(n, 0, n), ints(1, 0, 1), ints(1, 0, 1)},
	} {
		for _, l := range [][2]model{{c.p, c.q}, {c.q, c.p}} {
			g, e := poly.Gcd(l[0].poly(), l[1].times(big.NewInt(-n)).poly())
			expect(t, "Gcd", g, e, c.want)
		}
	}
}

// P2.6: large arguments.
func TestDivisorsOfLargeArguments(t *testing.T) {
	for _, p := range largePolys() {
		for _, q := range []api.Poly{nil, rough(nil), poly.Of(1), poly.Of(3, 1), p} {
			g, e := poly.Gcd(p, q)
			expectError(t, "Gcd of a large polynomial", g, e, api.ErrSize)
			g, e = poly.Gcd(q, p)
			expectError(t, "Gcd with a large polynomial", g, e, api.ErrSize)
		}
		f, e := poly.Free(p)
		expectError(t, "Free of a large polynomial", f, e, api.ErrSize)
	}
}
