// Package integer computes with integers of any size.
//
// An Int is a sign and limbs of 32 bits. This file has the calls that look at
// one number or compare two; the other files have one group of calls each,
// and limbs.go has the arithmetic of limbs without a sign that all of them use.
package integer

import "pinball/api"

// Of returns n.
func Of(n int) api.Int {
	size := uint64(n)
	if n < 0 {
		size = -size // right for the least int as well, whose negation is no int
	}
	return number(n < 0, []uint32{uint32(size), uint32(size >> limbBits)})
}

// Trim returns a in canonical form.
func Trim(a api.Int) api.Int {
	return number(a.Neg, duplicate(a.L))
}

// Sign returns -1, 0 or 1.
func Sign(a api.Int) int {
	switch {
	case len(cut(a.L)) == 0:
		return 0
	case a.Neg:
		return -1
	}
	return 1
}

// Cmp returns -1, 0 or 1 if a is less than, equal to or greater than b.
func Cmp(a, b api.Int) int {
	s, t := Sign(a), Sign(b)
	switch {
	case s < t:
		return -1
	case s > t:
		return 1
	case s < 0:
		return order(cut(b.L), cut(a.L))
	}
	return order(cut(a.L), cut(b.L))
}

// Bits returns the number of binary digits of the absolute value of a.
func Bits(a api.Int) int {
	return length(cut(a.L))
}

// Neg returns -a.
func Neg(a api.Int) api.Int {
	return number(!a.Neg, duplicate(a.L))
}

// number makes an Int in canonical form of limbs that only the caller refers to.
func number(neg bool, l []uint32) api.Int {
	l = cut(l)
	if len(l) == 0 {
		return api.Int{}
	}
	return api.Int{Neg: neg, L: l}
}

// large reports whether one of the numbers has more limbs than numbers may have.
func large(numbers ...api.Int) bool {
	for _, a := range numbers {
		if len(cut(a.L)) > api.MaxLimbs {
			return true
		}
	}
	return false
}

// bounded returns a, or ErrSize if it is large.
func bounded(a api.Int) (api.Int, api.Errno) {
	if large(a) {
		return api.Int{}, api.ErrSize
	}
	return a, api.OK
}
