package entry

import (
	"pinball/api"
	"pinball/integer"
	"pinball/poly"
	"pinball/root"
)

// inequality tells where a polynomial is positive from a place on: whether it is
// so just behind the place, and the later places up to 1 at which that changes.
type inequality struct {
	holds bool
	turns []api.Root
}

// turn goes on to the next turn, and returns it.
func (q *inequality) turn() api.Root {
	place := q.turns[0]
	q.turns = q.turns[1:]
	q.holds = !q.holds
	return place
}

// pass goes on to a place that is not earlier.
func (q *inequality) pass(place api.Root) api.Errno {
	for len(q.turns) > 0 {
		if later, e := less(place, q.turns[0]); e != api.OK || later {
			return e
		}
		q.turn()
	}
	return api.OK
}

// inequalities returns those of c that do not hold at all times between 0 and 1,
// from 0 on, and whether each of them holds at some.
func inequalities(c []api.Poly) (l []inequality, possible bool, e api.Errno) {
	var open []api.Poly
	for _, p := range c { // without roots, as most are: before any is looked for
		switch sign, known := steadySign(p); {
		case !known:
			open = append(open, p)
		case sign <= 0:
			return nil, false, api.OK
		}
	}
	for _, p := range open {
		places, e := turns(p)
		q := inequality{positiveBehindZero(p), places}
		switch {
		case e != api.OK || len(places) == 0 && !q.holds:
			return nil, false, e
		case len(places) > 0:
			l = append(l, q)
		}
	}
	return l, true, api.OK
}

// positiveBehindZero reports whether p is positive just behind 0.
func positiveBehindZero(p api.Poly) bool {
	for _, c := range p {
		if s := integer.Sign(c); s != 0 {
			return s > 0
		}
	}
	return false
}

// steadySign returns the sign that p has at all times between 0 and 1, apart from
// those at which it touches 0, and true, if coefficients tell it: nearly always
// where there is no root, and much faster than a search.
func steadySign(p api.Poly) (sign int, known bool) {
	if sign, known = commonSign(p); known {
		return sign, true
	}
	return commonSign(turned(p))
}

// commonSign returns the sign of those elements that are not 0, 0 if all are, and
// whether there is one.
func commonSign(l []api.Int) (sign int, ok bool) {
	for _, a := range l {
		s := integer.Sign(a)
		if s*sign < 0 {
			return 0, false
		}
		if s != 0 {
			sign = s
		}
	}
	return sign, true
}

// turned returns (1 + s)^degree p(1 / (1 + s)), for a p that is not 0: the times
// between 0 and 1 belong to the positive s. It may share memory with p.
func turned(p api.Poly) api.Poly {
	n := poly.Degree(p)
	r := make(api.Poly, n+1)
	for i := range r {
		r[i] = p[n-i]
	}
	for i := range n {
		for j := n - 1; j >= i; j-- {
			r[j], _ = integer.Add(r[j], r[j+1]) // far from large
		}
	}
	return r
}

// turns returns the places between 0 and 1 at which the sign of p, which is not
// 0, changes, ascending.
func turns(p api.Poly) ([]api.Root, api.Errno) {
	one := api.Dyadic{N: integer.Of(1)}
	all, e := root.Isolate(p, api.Dyadic{}, one)
	if e != api.OK || len(all) == 0 {
		return nil, e
	}
	end, e := poly.Sign(p, one)
	if e != api.OK {
		return nil, e
	}
	if end == 0 { // the last root is 1 itself
		all = all[:len(all)-1]
	}
	free, e := poly.Free(p)
	if e != api.OK || poly.Degree(free) == poly.Degree(p) {
		return all, e
	}
	var l []api.Root
	for _, r := range all {
		crosses, e := changesAt(p, r)
		if e != api.OK {
			return nil, e
		}
		if crosses {
			l = append(l, r)
		}
	}
	return l, api.OK
}

// changesAt reports whether the sign of p, which is not 0, changes at its root r:
// whether the first derivative that is not 0 there is one of an odd order.
func changesAt(p api.Poly, r api.Root) (bool, api.Errno) {
	for odd := true; ; odd = !odd {
		var e api.Errno
		if p, e = poly.Derive(p); e != api.OK {
			return false, e
		}
		switch s, e := root.Sign(r, p); {
		case e != api.OK:
			return false, e
		case s != 0:
			return odd, api.OK
		}
	}
}
