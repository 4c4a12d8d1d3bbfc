package root

import (
	"pinball/api"
	"pinball/integer"
	"pinball/poly"
	"pinball/wide"
)

// Cmp returns -1, 0 or 1 if the value of r is less than, equal to or greater than that of s.
func Cmp(r, s api.Root) (int, api.Errno) {
	a, valid := bracketOf(r)
	b, alsoValid := bracketOf(s)
	switch {
	case !valid || !alsoValid:
		return 0, api.ErrArg
	case b.sign == 0:
		return a.cmp(b.lo), api.OK
	case a.sign == 0:
		return -b.cmp(a.lo), api.OK
	case a.cmp(b.lo) <= 0 || b.cmp(a.hi) > 0:
		return -1, api.OK
	case a.cmp(b.hi) > 0 || b.cmp(a.lo) <= 0:
		return 1, api.OK
	}
	// Each value is in the interval of the other one, in which b.p changes its sign
	// at the value of b alone.
	if equal, e := a.solves(b.poly); e != api.OK || equal {
		return 0, e
	}
	sign, e := a.signOf(b.p)
	return -b.side(sign), e
}

// CmpDyadic returns -1, 0 or 1 if the value of r is less than, equal to or greater than x.
func CmpDyadic(r api.Root, x api.Dyadic) (int, api.Errno) {
	b, valid := bracketOf(r)
	if !valid || !within(x, maxExponent, maxDigits) {
		return 0, api.ErrArg
	}
	return b.cmp(x), api.OK
}

// Floor returns the greatest integer that is not greater than 2^e times the value of r.
func Floor(r api.Root, e int) (api.Int, api.Errno) {
	b, valid := bracketOf(r)
	if !valid || e < 0 || e > 64 {
		return api.Int{}, api.ErrArg
	}
	// From here on, the numbers are far too small for errors.
	low, _ := integer.Shift(b.lo.N, e-b.lo.E)
	high, _ := integer.Shift(b.hi.N, e-b.hi.E)
	for integer.Cmp(low, high) < 0 {
		sum, _ := integer.Add(low, high)
		middle, _ := integer.Shift(sum, -1)
		next, _ := integer.Add(middle, integer.Of(1))
		if b.cmp(api.Dyadic{N: next, E: e}) >= 0 {
			low = next
		} else {
			high = middle
		}
	}
	return low, api.OK
}

// Sign returns the sign of q at the value of r.
func Sign(r api.Root, q api.Poly) (int, api.Errno) {
	b, valid := bracketOf(r)
	if !valid {
		return 0, api.ErrArg
	}
	q, e := poly.Primitive(q)
	if e != api.OK {
		return 0, e
	}
	if b.sign == 0 {
		return wide.OfPoly(q).Sign(b.lo), api.OK
	}
	if zero, e := b.solves(q); e != api.OK || zero {
		return 0, e
	}
	return b.signOf(wide.OfPoly(q))
}
