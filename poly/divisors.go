package poly

import (
	"pinball/api"
	"pinball/integer"
	"pinball/wide"
)

// Rem returns the remainder of p and q over the rational numbers in primitive form.
func Rem(p, q api.Poly) (api.Poly, api.Errno) {
	if large(p, q) {
		return nil, api.ErrSize
	}
	divisor := wide.OfPoly(q)
	if len(divisor) == 0 {
		return nil, api.ErrZero
	}
	return wide.OfPoly(p).Remainder(divisor).Primitive()
}

// Gcd returns the greatest common divisor of p and q over the rational numbers
// in primitive form, or ErrSize if a remainder on the way is large.
func Gcd(p, q api.Poly) (api.Poly, api.Errno) {
	if large(p, q) {
		return nil, api.ErrSize
	}
	p, _ = Primitive(p)
	q, _ = Primitive(q)
	if len(p) > 0 && coprime(p, q) {
		return Of(1), api.OK
	}
	for len(q) > 0 {
		rest, e := Rem(p, q)
		if e != api.OK {
			return nil, e
		}
		p, q = q, rest
	}
	return upright(p), api.OK
}

// Free returns the primitive polynomial that has the roots of p once.
func Free(p api.Poly) (api.Poly, api.Errno) {
	p, e := Primitive(p)
	if e == api.OK && len(p) > 1 && !simple(p) {
		whole := wide.OfPoly(p)
		l := whole.Remainders(whole.Derivative())
		repeated := l[len(l)-1]
		p, e = whole.Quotient(repeated.Share(repeated.Content())).Narrow()
	}
	return upright(p), e
}

// upright returns p or -p, whichever has a positive leading coefficient; p is cut.
func upright(p api.Poly) api.Poly {
	if len(p) == 0 || integer.Sign(p[len(p)-1]) > 0 {
		return p
	}
	r := make(api.Poly, len(p))
	for i, c := range p {
		r[i] = integer.Neg(c)
	}
	return r
}
