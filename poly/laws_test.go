package poly_test

import (
	"math/big"
	"math/rand/v2"
	"slices"
	"testing"

	"pinball/api"
	"pinball/integer"
	"pinball/poly"
)

// must is a result that has no error.
func must(t *testing.T) func(p api.Poly, e api.Errno) api.Poly {
	return func(p api.Poly, e api.Errno) api.Poly {
		t.Helper()
		if e != api.OK {
			t.Fatal("error", e)
		}
		return p
	}
}

// equal reports whether two results are the same.
func equal(p, q api.Poly) bool {
	return slices.EqualFunc(p, q, func(a, b api.Int) bool { return integer.Cmp(a, b) == 0 })
}

// P2.7: p = s q + r over the rational numbers, up to positive factors.
func TestRemLaw(t *testing.T) {
	ok := must(t)
	r := rand.New(rand.NewPCG(16, 16))
	for i := range 100 {
		p, q, s := fullModel(r, i%8, 60).poly(), fullModel(r, i%5, 50).poly(), fullModel(r, i%6, 70).poly()
		rest := ok(poly.Rem(p, q))
		if poly.Degree(rest) >= poly.Degree(q) {
			t.Error("the degree of the remainder:", p, q, rest)
		}
		// The factor is that of the exact remainder.
		_, exact := model(values(p)).over(values(q))
		for j, c := range rest {
			ratio := new(big.Rat).Quo(exact[j], exact[len(rest)-1])
			want := new(big.Rat).SetFrac(value(c), value(rest[len(rest)-1]))
			if ratio.Cmp(want) != 0 || exact[j].Sign() != integer.Sign(c) {
				t.Error("Rem has another direction than the remainder:", p, q, rest)
			}
		}
		sum := ok(poly.Add(p, ok(poly.Mul(s, q))))
		if !equal(ok(poly.Rem(sum, q)), rest) {
			t.Error("Rem(p + s q, q) is Rem(p, q):", p, q, s)
		}
		if !equal(ok(poly.Rem(ok(poly.Mul(p, poly.Of(7))), ok(poly.Mul(q, poly.Of(-5))))), rest) {
			t.Error("Rem(7 p, -5 q) is Rem(p, q):", p, q)
		}
	}
}

// values is the model of a Poly.
func values(p api.Poly) model {
	m := make(model, len(p))
	for i, c := range p {
		m[i] = value(c)
	}
	return m
}

// P2.7: Gcd divides both, and is the greatest that does.
func TestGcdLaw(t *testing.T) {
	ok := must(t)
	r := rand.New(rand.NewPCG(17, 17))
	for i := range 100 {
		d := fullModel(r, i%4, 40)
		p, q := d.by(fullModel(r, i%5, 30)).poly(), d.by(fullModel(r, i%3, 50)).poly()
		g := ok(poly.Gcd(p, q))
		for _, f := range []api.Poly{p, q} {
			if rest := ok(poly.Rem(f, g)); len(rest) != 0 {
				t.Error("Gcd divides both:", p, q, g)
			}
		}
		if rest := ok(poly.Rem(g, d.poly())); len(rest) != 0 {
			t.Error("a common divisor divides Gcd:", p, q, g)
		}
		c, e := poly.Content(g)
		if e != api.OK || integer.Cmp(c, integer.Of(1)) != 0 || integer.Sign(g[len(g)-1]) != 1 {
			t.Error("Gcd is primitive, with a positive leading coefficient:", g)
		}
	}
}

// P2.7: Free(p q) = Free(Free(p) Free(q)).
func TestFreeLaw(t *testing.T) {
	ok := must(t)
	r := rand.New(rand.NewPCG(18, 18))
	for i := range 100 {
		d := fullModel(r, i%3, 20)
		p, q := d.by(fullModel(r, i%2, 30)).poly(), d.by(d).by(fullModel(r, i%3, 20)).poly()
		both := ok(poly.Free(ok(poly.Mul(p, q))))
		if !equal(both, ok(poly.Free(ok(poly.Mul(ok(poly.Free(p)), ok(poly.Free(q))))))) {
			t.Error("Free(p q) = Free(Free(p) Free(q)):", p, q)
		}
		if !equal(both, ok(poly.Free(both))) {
			t.Error("Free changes what has no repeated roots:", both)
		}
	}
}

// The laws of sums, and the rule for the derivative of a product.
func TestRing(t *testing.T) {
	ok := must(t)
	r := rand.New(rand.NewPCG(19, 19))
	add := func(p, q api.Poly) api.Poly { return ok(poly.Add(p, q)) }
	mul := func(p, q api.Poly) api.Poly { return ok(poly.Mul(p, q)) }
	for range 200 {
		p, q, s := randomModel(r, 5, 90).poly(), randomModel(r, 5, 90).poly(), randomModel(r, 5, 90).poly()
		for i, l := range [][2]api.Poly{
			{add(p, q), add(q, p)},
			{add(add(p, q), s), add(p, add(q, s))},
			{ok(poly.Sub(add(p, q), q)), p},
			{mul(p, q), mul(q, p)},
			{mul(mul(p, q), s), mul(p, mul(q, s))},
			{mul(p, add(q, s)), add(mul(p, q), mul(p, s))},
			{mul(p, poly.Of(1)), p},
			{ok(poly.Derive(mul(p, q))), add(mul(p, ok(poly.Derive(q))), mul(ok(poly.Derive(p)), q))},
		} {
			if !equal(l[0], l[1]) {
				t.Error("law", i, p, q, s)
			}
		}
	}
}

// The examples of the chapter.
func TestExamples(t *testing.T) {
	r, e := poly.Rem(poly.Of(0, 0, 1), poly.Of(-1, 1))
	expect(t, "Rem(x^2, x - 1)", r, e, ints(1))
	r, e = poly.Rem(poly.Of(0, 0, -1), poly.Of(-1, 2))
	expect(t, "Rem(-x^2, 2 x - 1)", r, e, ints(-1))
	r, e = poly.Gcd(poly.Of(-1, 0, 1), poly.Of(-2, 2))
	expect(t, "Gcd(x^2 - 1, 2 x - 2)", r, e, ints(-1, 1))
	r, e = poly.Free(poly.Of(0, 0, -4, 4))
	expect(t, "Free(4 x^3 - 4 x^2)", r, e, ints(0, -1, 1))
	r, e = poly.Primitive(poly.Of(6, -4))
	expect(t, "Primitive(-4 x + 6)", r, e, ints(3, -2))
}
