package contact

import (
	"math"

	"pinball/api"
	"pinball/arc"
	"pinball/flipper"
	"pinball/layout"
	"pinball/vector"
	"pinball/wall"
)

const maxVelocity = 1 << 17 // absolute value of a component of the velocity of a ball

// Valid returns OK if s is a state of t, otherwise the first error.
func Valid(t api.Table, s api.State) api.Errno {
	switch {
	case layout.Check(t) != api.OK:
		return api.ErrArg
	case len(s.Balls) != t.Balls || len(s.K) != len(t.Flippers) || len(s.Speed) != len(t.Flippers) || len(s.Away) != len(t.Walls):
		return api.ErrShape
	case !ranged(&t, &s):
		return api.ErrRange
	}
	for i, b := range s.Balls {
		if b.Where != api.InTrough && Overlap(t, s, b.Level, b.P, i) {
			return api.ErrOverlap
		}
	}
	return api.OK
}

// Active reports for each wall whether it is an obstacle for the ball in the tick that begins with s.
func Active(t api.Table, s api.State, ball int) []bool {
	l := make([]bool, len(t.Walls))
	if inList(len(s.Balls), ball) {
		for i := range l {
			l[i] = stands(&t, &s, i, s.Balls[ball])
		}
	}
	return l
}

// Overlap reports whether a ball at p would be in an obstacle, other balls but except among them.
func Overlap(t api.Table, s api.State, level int, p api.Vec, except int) bool {
	for i, x := range t.Walls {
		if x.Level == level && x.Kind != api.WallGate && !away(&s, i) && wall.InCapsule(p, x.A, x.B, t.Radius) {
			return true
		}
	}
	for _, x := range t.Arcs {
		if x.Level == level && arc.Inside(p, x, t.Radius) {
			return true
		}
	}
	for _, x := range t.Posts {
		if x.Level == level && wall.InDisc(p, x.C, sum(t.Radius, x.Size)) {
			return true
		}
	}
	for i, x := range t.Flippers {
		if x.Level == level && inList(len(s.K), i) && flipper.Inside(p, x, s.K[i], t.Radius) {
			return true
		}
	}
	for i, b := range s.Balls {
		// A ball may have left the coordinates at which package wall permits a disc, so the disc is the one of (0, 0).
		way := api.Vec{X: gap(p.X, b.P.X), Y: gap(p.Y, b.P.Y)}
		if b.Level == level && b.Where != api.InTrough && i != except && wall.InDisc(way, api.Vec{}, sum(t.Radius, t.Radius)) {
			return true
		}
	}
	return false
}

// ranged reports whether the fields of s, which has the shape of t, are in their ranges.
func ranged(t *api.Table, s *api.State) bool {
	if !within(0, api.MaxTick, s.Tick) {
		return false
	}
	for i, x := range t.Flippers {
		if !within(x.Low, x.High, s.K[i]) || !within(-x.Max, x.Max, s.Speed[i]) {
			return false
		}
	}
	for i, x := range t.Walls {
		if s.Away[i] && x.Kind != api.WallGate && x.Kind != api.WallTarget {
			return false
		}
	}
	taken := map[int]bool{}
	for _, b := range s.Balls {
		if !placed(t, b, taken) {
			return false
		}
	}
	return true
}

// placed reports whether the fields of b are in their ranges. The saucers in taken have a ball before it; that of b is added to them.
func placed(t *api.Table, b api.Ball, taken map[int]bool) bool {
	switch {
	case b.Where == api.InTrough:
		return b == api.Ball{}
	case !within(0, api.MaxLevel, b.Level) || !within(-api.MaxCoord, api.MaxCoord, b.P.X, b.P.Y) || !within(-maxVelocity, maxVelocity, b.V.X, b.V.Y):
		return false
	case b.Where == api.Free:
		return b.Slot == 0
	case b.Where != api.Caught || !inList(len(t.Saucers), b.Slot) || taken[b.Slot]:
		return false
	}
	taken[b.Slot] = true
	x := t.Saucers[b.Slot]
	return x.Level == b.Level && b.V == api.Vec{} && wall.InDisc(b.P, x.C, x.Size)
}

// stands reports whether a wall is an obstacle for b in the tick that begins with s.
func stands(t *api.Table, s *api.State, index int, b api.Ball) bool {
	x := &t.Walls[index]
	switch {
	case b.Where == api.InTrough || x.Level != b.Level || away(s, index):
		return false
	case x.Kind != api.WallGate:
		return true
	}
	left := vector.Cross(vector.Sub(x.B, x.A), vector.Sub(b.P, x.A)) > 0
	return left && !wall.InCapsule(b.P, x.A, x.B, t.Radius)
}

// away reports whether a wall is away; states that do not fit their table say nothing about some walls.
func away(s *api.State, index int) bool {
	return inList(len(s.Away), index) && s.Away[index]
}

// inList reports whether a list of n elements has one with this index.
func inList(n, index int) bool {
	return 0 <= index && index < n
}

// within reports whether all numbers are from lo to hi.
func within(lo, hi int, numbers ...int) bool {
	for _, a := range numbers {
		if a < lo || a > hi {
			return false
		}
	}
	return true
}

// sum returns a + b, or 0, which reaches nothing, if that is no int.
func sum(a, b int) int {
	if n := a + b; (n < a) == (b < 0) {
		return n
	}
	return 0
}

// gap returns the distance between a and b, or the greatest int if it is greater.
func gap(a, b int) int {
	if n := max(a, b) - min(a, b); n >= 0 {
		return n
	}
	return math.MaxInt
}
