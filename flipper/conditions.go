package flipper

import (
	"pinball/api"
	"pinball/poly"
	"pinball/vector"
)

// A path is a vector that changes within a tick: elements belong to the powers of the time.
type path [3]api.Vec

// A course is a number that does.
type course [5]int

// A view is what a blade sees of a ball: its place is (along, across) / n in front of
// the pivot, where n is above 0, and far is the square of its distance from there.
type view struct{ along, across, n, far course }

// seen returns how m is seen by a blade that moves from from to to.
func seen(m api.Motion, f api.Flipper, from, to int) view {
	e := to - from
	start, n := pointing(f, from, api.HalfAngle)
	d := path{start, facing(f, api.Vec{X: -2 * from * e, Y: 2 * api.HalfAngle * e}), facing(f, api.Vec{X: -e * e})}
	q := path{vector.Sub(m.P, f.P), m.V, m.H}
	return view{
		along:  product(vector.Dot, q, d),
		across: product(vector.Cross, d, q),
		n:      course{n, 2 * from * e, e * e},
		far:    product(vector.Dot, q, q),
	}
}

// tip returns the inequality that holds while the ball is nearer to the tip of the blade than reach.
func (s view) tip(length, reach int) []api.Poly {
	// That is n (reach^2 - length^2 - far) + 2 length along > 0; the product need not have ints as coefficients.
	rest := mix(1, course{reach*reach - length*length}, -1, s.far)
	p, _ := poly.Mul(mix(1, s.n, 0, course{}), rest)
	p, _ = poly.Add(p, mix(2*length, s.along, 0, course{}))
	return []api.Poly{p}
}

// beside returns the inequalities that hold while the point of the blade that is nearest to the
// ball is none of its ends, and their distance is less than reach.
func (s view) beside(length, reach int) []api.Poly {
	return []api.Poly{
		mix(1, s.along, 0, course{}),
		mix(length, s.n, -1, s.along),
		mix(reach, s.n, -1, s.across),
		mix(reach, s.n, 1, s.across),
	}
}

// product returns the product by of two vectors.
func product(by func(a, b api.Vec) int, a, b path) course {
	var c course
	for i, u := range a {
		for j, v := range b {
			c[i+j] += by(u, v)
		}
	}
	return c
}

// mix returns a p + b q.
func mix(a int, p course, b int, q course) api.Poly {
	for i := range p {
		p[i] = a*p[i] + b*q[i]
	}
	return poly.Of(p[:]...)
}
