package poly

import (
	"pinball/api"
	"pinball/integer"
)

// Rem returns the remainder of p and q over the rational numbers in primitive form.
func Rem(p, q api.Poly) (api.Poly, api.Errno) {
	if large(p, q) {
		return nil, api.ErrSize
	}
	p, q = cut(p), cut(q)
	if len(q) == 0 {
		return nil, api.ErrZero
	}
	return reduce(remainder(widenAll(p), widenAll(upright(q))))
}

// Gcd returns the greatest common divisor of p and q over the rational numbers
// in primitive form, or ErrSize if a remainder on the way is large.
func Gcd(p, q api.Poly) (api.Poly, api.Errno) {
	if large(p, q) {
		return nil, api.ErrSize
	}
	p, q = primitive(cut(p)), primitive(cut(q))
	for len(q) > 0 {
		rest, e := Rem(p, q)
		if e != api.OK {
			return nil, e
		}
		p, q = q, rest
	}
	return upright(p), api.OK
}

// Free returns the primitive polynomial that has the roots of p once.
func Free(p api.Poly) (api.Poly, api.Errno) {
	if large(p) {
		return nil, api.ErrSize
	}
	p = upright(primitive(cut(p)))
	if len(p) < 2 { // 0 or 1
		return p, api.OK
	}
	d, e := reduce(derivative(widenAll(p)))
	if e != api.OK {
		return nil, e
	}
	repeated, e := Gcd(p, d)
	if e != api.OK {
		return nil, e
	}
	if len(repeated) == 1 {
		return p, api.OK
	}
	return narrowAll(quotient(widenAll(p), widenAll(repeated)))
}

// upright returns p or -p, whichever has a positive leading coefficient; p is cut.
func upright(p api.Poly) api.Poly {
	if len(p) == 0 || integer.Sign(p[len(p)-1]) > 0 {
		return p
	}
	r := make(api.Poly, len(p))
	for i, c := range p {
		r[i] = integer.Neg(c)
	}
	return r
}

// remainder returns the remainder of p and q, multiplied by a positive number.
// The leading coefficient of q is positive.
func remainder(p, q []wide) []wide {
	n := len(q) - 1
	for len(p) > n {
		k := len(p) - 1 - n
		top := p[n+k].negative()
		rest := p[:n+k]
		if top.sign() != 0 {
			rest = make([]wide, n+k)
			for i := range rest {
				s := digits{}.plus(p[i], q[n])
				if i >= k {
					s = s.plus(top, q[i-k])
				}
				rest[i] = s.settled()
			}
		}
		p = rest
	}
	return p
}

// quotient returns p divided by q, which divides it, and uses the memory of p.
// Both are primitive, so the coefficients are integers; the leading coefficient
// of q is positive.
func quotient(p, q []wide) []wide {
	n := len(q) - 1
	r := make([]wide, len(p)-n)
	for k := len(r) - 1; k >= 0; k-- {
		r[k] = p[n+k].share(q[n])
		factor := r[k].negative()
		for i, c := range q {
			p[i+k] = p[i+k].raised(0).plus(factor, c).settled()
		}
	}
	return r
}
