// Package sturm counts the real roots of polynomials in intervals.
//
// A chain tells the number of roots by its changes of sign. Chain gives it out
// in polynomials that may not be large; Count promises a result where their
// elements or values are large too, so it has a chain of its own (count.go).
package sturm

import (
	"pinball/api"
	"pinball/integer"
	"pinball/poly"
	"pinball/wide"
)

// Chain returns the Sturm chain of p.
func Chain(p api.Poly) ([]api.Poly, api.Errno) {
	p, e := poly.Free(p)
	if e != api.OK || len(p) == 0 {
		return nil, e
	}
	// The derivative may be large where its primitive form is not.
	l := []api.Poly{p}
	next, e := wide.OfPoly(p).Derivative().Primitive()
	for e == api.OK && len(next) > 0 {
		l = append(l, next)
		next, e = poly.Rem(l[len(l)-2], next)
		next = negative(next)
	}
	if e != api.OK {
		return nil, e
	}
	return l, api.OK
}

// Changes returns how often the sign changes in l at x.
func Changes(l []api.Poly, x api.Dyadic) (int, api.Errno) {
	signs := make([]int, len(l))
	for i, p := range l {
		s, e := poly.Sign(p, x)
		if e != api.OK {
			return 0, e
		}
		signs[i] = s
	}
	return alternations(signs), api.OK
}

// alternations returns how often the sign changes in a list of signs, without the zeros.
func alternations(signs []int) int {
	n, last := 0, 0
	for _, s := range signs {
		if s*last < 0 {
			n++
		}
		if s != 0 {
			last = s
		}
	}
	return n
}

// negative returns -p.
func negative(p api.Poly) api.Poly {
	r := make(api.Poly, len(p))
	for i, c := range p {
		r[i] = integer.Neg(c)
	}
	return r
}
