package sturm

import (
	"pinball/api"
	"pinball/poly"
	"pinball/wide"
)

// Count returns the number of different real roots of p that are greater than a and at most b.
func Count(p api.Poly, a, b api.Dyadic) (int, api.Errno) {
	p, e := poly.Primitive(p)
	switch {
	case e != api.OK:
		return 0, e
	case len(p) == 0:
		return 0, api.ErrZero
	}
	if order, e := Cmp(a, b); e != api.OK || order > 0 {
		return 0, api.ErrArg
	}
	// If p has roots that occur more than once, all remainders have a factor in
	// common. It changes no sign between places without roots.
	whole := wide.OfPoly(p)
	changes := changesBehind(whole.Remainders(whole.Derivative()))
	return changes(a) - changes(b), api.OK
}

// changesBehind returns the changes of sign of l as a function of the place just
// behind which they are looked at. No root of an element lies there, so the roots
// between two such places are counted whatever p is at the places themselves.
func changesBehind(l []wide.Poly) func(x api.Dyadic) int {
	return func(x api.Dyadic) int {
		signs := make([]int, len(l))
		for i, p := range l {
			signs[i] = p.SignBehind(x)
		}
		return alternations(signs)
	}
}
