package root

import (
	"pinball/api"
	"pinball/poly"
	"pinball/sturm"
	"pinball/wide"
)

// bracket is a Root in the form that finds its value fast: from lo to the value,
// p has one sign, and from the value to hi the other one. Without a sign, the
// value is lo, and hi too.
type bracket struct {
	poly   api.Poly // of the Root, primitive
	p      wide.Poly
	sign   int // just behind lo
	lo, hi api.Dyadic
}

// bracketOf returns the bracket of r, and whether r is valid.
func bracketOf(r api.Root) (b bracket, valid bool) {
	p, e := poly.Primitive(r.P)
	if e != api.OK || len(p) < 2 || !within(r.Lo, maxExponent, maxDigits) || !within(r.Hi, maxExponent, maxDigits) {
		return bracket{}, false
	}
	b = bracket{poly: p, p: wide.OfPoly(p), lo: r.Lo, hi: r.Hi}
	switch order(r.Lo, r.Hi) {
	case 0:
		return b, b.p.Sign(r.Lo) == 0
	case 1:
		return bracket{}, false
	}
	if count(p, r.Lo, r.Hi) != 1 {
		return bracket{}, false
	}
	b.sign = b.p.SignBehind(b.lo)
	if b.p.Sign(b.hi) == b.sign { // p touches 0: the root occurs an even number of times
		b.p = once(b.p)
		b.sign = b.p.SignBehind(b.lo)
	}
	return b, true
}

// once returns a polynomial that has each root of p, which is not constant, once.
// poly.Free would do so too, but only if the result is not large.
func once(p wide.Poly) wide.Poly {
	l := p.Remainders(p.Derivative())
	repeated := l[len(l)-1]
	return p.Quotient(repeated.Share(repeated.Content()))
}

// halve keeps the half of the interval that the value is in.
func (b *bracket) halve() api.Errno {
	middle, e := sturm.Middle(b.lo, b.hi)
	switch {
	case e != api.OK:
		return e
	case b.side(b.p.Sign(middle)) > 0:
		b.lo = middle
	default:
		b.hi = middle
	}
	return api.OK
}

// cmp returns -1, 0 or 1 if the value is less than, equal to or greater than x.
func (b *bracket) cmp(x api.Dyadic) int {
	switch {
	case b.sign == 0:
		return order(b.lo, x)
	case order(x, b.lo) <= 0:
		return 1
	case order(x, b.hi) > 0:
		return -1
	}
	return b.side(b.p.Sign(x))
}

// side returns -1, 0 or 1 if the value is less than, equal to or greater than a
// place in the interval at which p has the sign s.
func (b *bracket) side(s int) int {
	switch s {
	case 0:
		return 0
	case b.sign:
		return 1
	}
	return -1
}

// solves reports whether the value is a root of q; lo is less than hi.
func (b *bracket) solves(q api.Poly) (bool, api.Errno) {
	common, e := poly.Gcd(b.poly, q)
	if e != api.OK {
		return false, api.ErrLimit
	}
	return count(common, b.lo, b.hi) > 0, api.OK
}

// signOf returns the sign of q at the value, which is not a root of it. It ends:
// when the interval has become so small that no complex root of q is near, few
// finds no root in it.
func (b *bracket) signOf(q wide.Poly) (int, api.Errno) {
	for {
		if n, known := few(q, b.lo, b.hi); known && n == 0 {
			return q.Sign(b.hi), api.OK
		}
		if b.halve() != api.OK {
			return 0, api.ErrLimit
		}
	}
}
