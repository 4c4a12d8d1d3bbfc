package root

import (
	"pinball/api"
	"pinball/integer"
	"pinball/sturm"
	"pinball/wide"
)

// count returns the number of different real roots of p, which is not 0 and not
// large, that are greater than a and at most b; a is less than b.
func count(p api.Poly, a, b api.Dyadic) int {
	n, known := few(wide.OfPoly(p), a, b)
	if !known {
		n, _ = sturm.Count(p, a, b)
	}
	return n
}

// few returns what count does, and true, if Descartes' rule tells it: nearly
// always where there are no roots or one, and faster than a chain of remainders.
func few(p wide.Poly, a, b api.Dyadic) (n int, known bool) {
	n = variations(p, a, b)
	if n > 1 {
		return 0, false
	}
	if p.Sign(b) == 0 {
		n++
	}
	return n, true
}

// variations returns how often the sign changes from one coefficient to the next,
// without the zeros, in the polynomial (1 + t)^degree p((b + a t) / (1 + t)). Its
// positive roots belong to those of p between a and b, and by Descartes' rule the
// changes are as many, or more; if they are at most one, they are as many.
func variations(p wide.Poly, a, b api.Dyadic) int {
	one := wide.Of(integer.Of(1))
	e := max(a.E, b.E)
	low := wide.Of(a.N).Raised(e - a.E)
	width := wide.Of(b.N).Raised(e - b.E).Plus(low.Negative())
	degree := len(p) - 1
	whole := make(wide.Poly, len(p))
	for i, c := range p { // times 2^e, the roots and both places are at integers
		whole[i] = c.Raised(e * (degree - i))
	}
	shift(whole, low)
	turned, scale := make(wide.Poly, len(p)), one
	for i, c := range whole { // from 0 and the width to 1 and infinity
		turned[degree-i] = c.Times(scale)
		scale = scale.Times(width)
	}
	shift(turned, one)
	n, last := 0, 0
	for _, c := range turned {
		if c.Sign()*last < 0 {
			n++
		}
		if c.Sign() != 0 {
			last = c.Sign()
		}
	}
	return n
}

// shift makes the roots of p less by a number, in the memory of p.
func shift(p wide.Poly, by wide.Int) {
	if by.Sign() == 0 {
		return
	}
	for i := range p {
		for j := len(p) - 2; j >= i; j-- {
			p[j] = p[j].Plus(p[j+1].Times(by))
		}
	}
}
