package poly

import (
	"pinball/api"
	"pinball/integer"
	"pinball/wide"
)

// Add returns p + q.
func Add(p, q api.Poly) (api.Poly, api.Errno) {
	return pairwise(p, q, integer.Add)
}

// Sub returns p - q.
func Sub(p, q api.Poly) (api.Poly, api.Errno) {
	return pairwise(p, q, integer.Sub)
}

// Mul returns p q.
func Mul(p, q api.Poly) (api.Poly, api.Errno) {
	if large(p, q) {
		return nil, api.ErrSize
	}
	p, q = cut(p), cut(q)
	if len(p) > 0 && len(q) > 0 && len(p)-1+len(q)-1 > api.MaxDegree {
		return nil, api.ErrSize
	}
	return wide.OfPoly(p).Times(wide.OfPoly(q)).Narrow()
}

// Derive returns the derivative of p.
func Derive(p api.Poly) (api.Poly, api.Errno) {
	if large(p) {
		return nil, api.ErrSize
	}
	return wide.OfPoly(p).Derivative().Narrow()
}

// pairwise applies f to the coefficients of p and q.
func pairwise(p, q api.Poly, f func(a, b api.Int) (api.Int, api.Errno)) (api.Poly, api.Errno) {
	if large(p, q) {
		return nil, api.ErrSize
	}
	p, q = cut(p), cut(q)
	r := make(api.Poly, max(len(p), len(q)))
	for i := range r {
		c, e := f(coefficient(p, i), coefficient(q, i))
		if e != api.OK {
			return nil, e
		}
		r[i] = c
	}
	return cut(r), api.OK
}

// coefficient returns the coefficient of the power i, which may be above the degree.
func coefficient(p api.Poly, i int) api.Int {
	if i < len(p) {
		return p[i]
	}
	return api.Int{}
}
