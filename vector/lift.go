package vector

import (
	"cmp"
	"slices"

	"pinball/api"
)

// Lift returns the vector that takes the place of x if it must not point against the vectors of l.
func Lift(x api.Vec, l []api.Vec) api.Vec {
	great := func(n api.Vec) bool { return !Small(n) }
	if great(x) || slices.ContainsFunc(l, great) {
		return api.Vec{}
	}
	s := sides(l)
	if s.allow(x) {
		return x
	}
	// One candidate alone is the best: if two different ones were equally good, they would be
	// mirror images at the line through 0 and x. Their middle would be allowed as well, so it would
	// be on the other side of 0 than x, or 0, and the zero vector would be nearer to x than both.
	var best api.Vec
	for _, n := range l {
		if Dot(x, n) >= 0 {
			continue
		}
		for _, y := range candidates(x, n) {
			if Small(y) && s.allow(y) && better(y, best, x) {
				best = y
			}
		}
	}
	return best
}

// bounds are vectors that allow the vectors which point against none of them; a zero vector allows all.
type bounds [4]api.Vec

// sides returns vectors of l that allow the same as all of them, so that looking at the candidates
// of a long list takes a time in proportion to its length: for each half of the directions the first
// and the last one, counterclockwise. Those between two vectors are sums of multiples of them, and
// forbid nothing else.
func sides(l []api.Vec) bounds {
	var s bounds
	for _, n := range l {
		first, last := &s[0], &s[1]
		if n.Y < 0 || n.Y == 0 && n.X < 0 {
			first, last = &s[2], &s[3]
		}
		if *first == (api.Vec{}) {
			*first, *last = n, n
		}
		if Cross(n, *first) > 0 {
			*first = n
		}
		if Cross(*last, n) > 0 {
			*last = n
		}
	}
	return s
}

// allow reports whether v, which is small, points against none of s.
func (s bounds) allow(v api.Vec) bool {
	for _, n := range s {
		if Dot(v, n) < 0 {
			return false
		}
	}
	return true
}

// candidates returns the vectors of integers around the projection of x on the line at right angles to n.
func candidates(x, n api.Vec) [4]api.Vec {
	c, d := Cross(n, x), Dot(n, n)
	left, right := around(-n.Y, c, d)
	low, high := around(n.X, c, d)
	return [4]api.Vec{{X: left, Y: low}, {X: left, Y: high}, {X: right, Y: low}, {X: right, Y: high}}
}

// better reports whether y is nearer to x than z is, or as near and shorter.
func better(y, z, x api.Vec) bool {
	return cmp.Or(cmp.Compare(distance(x, y), distance(x, z)), cmp.Compare(Dot(y, y), Dot(z, z))) < 0
}

// distance returns the square of the distance from x to a candidate, which is an int though the
// difference need not be small: no candidate is much farther from x than the zero vector.
func distance(x, y api.Vec) int {
	a, b := y.X-x.X, y.Y-x.Y
	return a*a + b*b
}
