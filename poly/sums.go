package poly

import (
	"pinball/api"
	"pinball/integer"
)

// Add returns p + q.
func Add(p, q api.Poly) (api.Poly, api.Errno) {
	return pairwise(p, q, integer.Add)
}

// Sub returns p - q.
func Sub(p, q api.Poly) (api.Poly, api.Errno) {
	return pairwise(p, q, integer.Sub)
}

// Mul returns p q.
func Mul(p, q api.Poly) (api.Poly, api.Errno) {
	if large(p, q) {
		return nil, api.ErrSize
	}
	p, q = cut(p), cut(q)
	switch {
	case len(p) == 0 || len(q) == 0:
		return nil, api.OK
	case len(p)-1+len(q)-1 > api.MaxDegree:
		return nil, api.ErrSize
	}
	return narrowAll(product(widenAll(p), widenAll(q)))
}

// Derive returns the derivative of p.
func Derive(p api.Poly) (api.Poly, api.Errno) {
	if large(p) {
		return nil, api.ErrSize
	}
	return narrowAll(derivative(widenAll(cut(p))))
}

// pairwise applies f to the coefficients of p and q.
func pairwise(p, q api.Poly, f func(a, b api.Int) (api.Int, api.Errno)) (api.Poly, api.Errno) {
	if large(p, q) {
		return nil, api.ErrSize
	}
	p, q = cut(p), cut(q)
	r := make(api.Poly, max(len(p), len(q)))
	for i := range r {
		c, e := f(coefficient(p, i), coefficient(q, i))
		if e != api.OK {
			return nil, e
		}
		r[i] = c
	}
	return cut(r), api.OK
}

// coefficient returns the coefficient of the power i, which may be above the degree.
func coefficient(p api.Poly, i int) api.Int {
	if i < len(p) {
		return p[i]
	}
	return api.Int{}
}

// product returns p q; neither is the zero polynomial.
func product(p, q []wide) []wide {
	sums := make([]digits, len(p)+len(q)-1)
	for i, a := range p {
		for j, b := range q {
			sums[i+j] = sums[i+j].plus(a, b)
		}
	}
	r := make([]wide, len(sums))
	for i, s := range sums {
		r[i] = s.settled()
	}
	return r
}

// derivative returns the derivative of p.
func derivative(p []wide) []wide {
	var r []wide
	for i := 1; i < len(p); i++ {
		r = append(r, p[i].times(wide{integer.Of(i)}))
	}
	return r
}
