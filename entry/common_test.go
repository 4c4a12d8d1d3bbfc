package entry_test

import (
	"math/big"
	"math/rand/v2"
	"slices"
	"testing"

	"pinball/api"
	"pinball/entry"
	"pinball/integer"
	"pinball/poly"
	"pinball/root"
	"pinball/sturm"
)

// dy is n / 2^e.
func dy(n, e int) api.Dyadic {
	return api.Dyadic{N: integer.Of(n), E: e}
}

// number is the canonical Int of a value.
func number(v *big.Int) api.Int {
	a, e := integer.Parse(v.String())
	if e != api.OK {
		panic("the test's number")
	}
	return a
}

// bit is 2^n.
func bit(n int) *big.Int {
	return new(big.Int).Lsh(big.NewInt(1), uint(n))
}

// plus is v + k.
func plus(v *big.Int, k int64) *big.Int {
	return new(big.Int).Add(v, big.NewInt(k))
}

// minus is -v.
func minus(v *big.Int) *big.Int {
	return new(big.Int).Neg(v)
}

// line is d t - n.
func line(n, d *big.Int) api.Poly {
	return api.Poly{number(minus(n)), number(d)}
}

// by is the product of polynomials; -1 is written as poly.Of(-1).
func by(factors ...api.Poly) api.Poly {
	p := poly.Of(1)
	for _, f := range factors {
		q, e := poly.Mul(p, f)
		if e != api.OK {
			panic("the test's polynomial")
		}
		p = q
	}
	return p
}

// not is -p.
func not(p api.Poly) api.Poly {
	return by(poly.Of(-1), p)
}

// list is an argument of First.
type list = [][]api.Poly

// each is l with another form of each polynomial.
func each(l list, form func(p api.Poly) api.Poly) list {
	r := make(list, len(l))
	for i, c := range l {
		for _, p := range c {
			r[i] = append(r[i], form(p))
		}
	}
	return r
}

// rough is p in a form that is not canonical: with zeros in front of its
// elements, forms of 0 as elements, and zeros at its end.
func rough(p api.Poly) api.Poly {
	var r api.Poly
	for i, a := range p {
		a.Neg = a.Neg || len(a.L) == 0
		a.L = append(slices.Clone(a.L), make([]uint32, 1+i%3*100)...)
		r = append(r, a)
	}
	r = append(r, api.Int{}, api.Int{Neg: true}, api.Int{L: make([]uint32, 300)})
	return append(r, make(api.Poly, 20)...)
}

// roots are those of p that are greater than 0 and at most 1.
func roots(t *testing.T, p api.Poly) []api.Root {
	t.Helper()
	l, e := root.Isolate(p, dy(0, 0), dy(1, 0))
	if e != api.OK {
		t.Fatal("Isolate:", e, p)
	}
	return l
}

// point is the Root n / 2^e.
func point(t *testing.T, n, e int) api.Root {
	t.Helper()
	r, f := root.Of(dy(n, e))
	if f != api.OK {
		t.Fatal("Of:", f)
	}
	return r
}

// order is root.Cmp.
func order(t *testing.T, r, s api.Root) int {
	t.Helper()
	n, e := root.Cmp(r, s)
	if e != api.OK {
		t.Fatal("Cmp:", e, r, s)
	}
	return n
}

// gap is a number between two Roots, the first of which is less.
func gap(t *testing.T, r, s api.Root) api.Dyadic {
	t.Helper()
	for range 20 {
		if n, e := sturm.Cmp(r.Hi, s.Lo); e == api.OK && n < 0 {
			m, _ := sturm.Middle(r.Hi, s.Lo)
			return m
		}
		r, _ = root.Refine(r, 32)
		s, _ = root.Refine(s, 32)
	}
	t.Fatal("no gap:", r, s)
	return api.Dyadic{}
}

// holdsAt reports whether l holds at x.
func holdsAt(t *testing.T, l list, x api.Dyadic) bool {
	t.Helper()
	return slices.ContainsFunc(l, func(c []api.Poly) bool {
		return !slices.ContainsFunc(c, func(p api.Poly) bool {
			s, e := poly.Sign(p, x)
			if e != api.OK {
				t.Fatal("Sign:", e, p)
			}
			return s <= 0
		})
	})
}

// searched is what First returns, found by looking at l between any two
// neighbouring roots of its polynomials.
func searched(t *testing.T, l list) (api.Root, bool) {
	t.Helper()
	places := []api.Root{point(t, 0, 0), point(t, 1, 0)}
	for _, p := range slices.Concat(l...) {
		if poly.Degree(p) >= 0 {
			places = append(places, roots(t, p)...)
		}
	}
	slices.SortFunc(places, func(r, s api.Root) int { return order(t, r, s) })
	for i, r := range places[1:] {
		if before := places[i]; order(t, before, r) < 0 && holdsAt(t, l, gap(t, before, r)) {
			return before, true
		}
	}
	return api.Root{}, false
}

// expect checks First and Within of l; without a Root, there is no entry.
func expect(t *testing.T, l list, want ...api.Root) {
	t.Helper()
	r, found, e := entry.First(l)
	switch {
	case e != api.OK || found != (len(want) > 0):
		t.Errorf("First of %v: %v, error %d, want %v", l, found, e, want)
	case !found && !empty(r):
		t.Errorf("First of %v: a Root without an entry, %v", l, r)
	case found && (!root.Valid(r) || order(t, r, want[0]) != 0):
		t.Errorf("First of %v: %v, want %v", l, r, want)
	}
	if holds, e := entry.Within(l); e != api.OK || holds != found {
		t.Errorf("Within of %v: %v, error %d, want %v", l, holds, e, found)
	}
}

// empty reports whether r is the zero Root.
func empty(r api.Root) bool {
	return len(r.P) == 0 && r.Lo.E == 0 && r.Hi.E == 0 && len(r.Lo.N.L) == 0 && len(r.Hi.N.L) == 0 && !r.Lo.N.Neg && !r.Hi.N.Neg
}

// randomFactor is a polynomial of degree 1 or 2 out of a few, so that products of
// them often have roots in common.
func randomFactor(r *rand.Rand) api.Poly {
	switch n := 2 + r.IntN(5); r.IntN(8) {
	case 0:
		return poly.Of(0, 1)
	case 1:
		return poly.Of(-1, 1)
	case 2:
		return poly.Of(-1, 0, n) // the root of 1 / n
	case 3:
		return poly.Of(1, -n, n) // two roots for n = 5 and 6, one for n = 4
	case 4:
		return poly.Of(n, 1)
	default:
		return poly.Of(-r.IntN(n+2), n)
	}
}

// randomPoly is a product of random factors, of a degree of at most 8.
func randomPoly(r *rand.Rand) api.Poly {
	p := poly.Of(1 - 2*r.IntN(2))
	for range r.IntN(6) {
		f := randomFactor(r)
		for range 1 + r.IntN(3)*r.IntN(2) {
			if poly.Degree(p)+poly.Degree(f) <= 8 {
				p = by(p, f)
			}
		}
	}
	return p
}

// randomList is a list of random conjunctions.
func randomList(r *rand.Rand) list {
	var l list
	for range r.IntN(4) {
		var c []api.Poly
		for range 1 + r.IntN(4) {
			c = append(c, randomPoly(r))
		}
		l = append(l, c)
	}
	return l
}
