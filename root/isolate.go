package root

import (
	"pinball/api"
	"pinball/integer"
	"pinball/poly"
	"pinball/sturm"
	"pinball/wide"
)

// plainExponent limits the search for plain intervals. With such a Root, other
// calls soon see that it is valid, but a complex root may be too near.
const plainExponent = 256

// Isolate returns a Root for each real root of p that is greater than lo and at most hi, ascending.
func Isolate(p api.Poly, lo, hi api.Dyadic) ([]api.Root, api.Errno) {
	p, e := poly.Primitive(p)
	switch {
	case e != api.OK:
		return nil, e
	case len(p) == 0:
		return nil, api.ErrZero
	case !within(lo, 64, 128) || !within(hi, 64, 128) || order(lo, hi) > 0:
		return nil, api.ErrArg
	case order(lo, hi) == 0:
		return nil, api.OK
	}
	if f, e := poly.Free(p); e == api.OK { // roots that occur once are counted faster
		p = f
	}
	s := search{p: p, whole: wide.OfPoly(p)}
	all := s.part(lo, hi)
	if !all.plain {
		all.n, _ = sturm.Count(p, lo, hi)
	}
	if e := s.split(all); e != api.OK {
		return nil, e
	}
	return s.found, api.OK
}

// search is a search for the roots of p, from the least one on.
type search struct {
	p     api.Poly
	whole wide.Poly // p
	found []api.Root
}

// part is an interval with the number of roots that are greater than a and at
// most b; it is plain if Descartes' rule tells that number.
type part struct {
	a, b  api.Dyadic
	n     int
	plain bool
}

// part returns the interval from a to b; the number of roots is missing if it is not plain.
func (s *search) part(a, b api.Dyadic) part {
	n, plain := few(s.whole, a, b)
	return part{a, b, n, plain}
}

// split finds the roots in w.
func (s *search) split(w part) api.Errno {
	switch {
	case w.n == 0:
		return api.OK
	case w.n == 1 && w.plain:
		return s.add(w)
	}
	middle := between(w.a, w.b)
	switch {
	case w.n == 1 && !within(middle, plainExponent, maxDigits):
		return s.add(w)
	case !within(middle, maxExponent, maxDigits):
		return api.ErrLimit
	}
	left, right := s.part(w.a, middle), s.part(middle, w.b)
	switch {
	case left.plain:
		right.n = w.n - left.n
	case right.plain:
		left.n = w.n - right.n
	default:
		left.n, _ = sturm.Count(s.p, w.a, middle)
		right.n = w.n - left.n
	}
	if e := s.split(left); e != api.OK {
		return e
	}
	return s.split(right)
}

// add puts the root in w to those that are found.
func (s *search) add(w part) api.Errno {
	s.found = append(s.found, rootOf(s.p, w.a, w.b))
	return api.OK
}

// between returns a number between a and b, reduced: a multiple of the greatest
// power of 2 that is less than their distance. So if a and b may be ends of the
// interval of a Root, this number may be one too, or else none between them may.
func between(a, b api.Dyadic) api.Dyadic {
	e := max(a.E, b.E) + 1
	low, _ := integer.Shift(a.N, e-a.E)
	high, _ := integer.Shift(b.N, e-b.E)
	top, _ := integer.Sub(high, integer.Of(1))
	distance, _ := integer.Sub(top, low)
	power := integer.Bits(distance) - 1
	n, _ := integer.Shift(top, -power)
	if power > e {
		n, _ = integer.Shift(n, power-e)
	}
	return reduced(api.Dyadic{N: n, E: max(e-power, 0)})
}
