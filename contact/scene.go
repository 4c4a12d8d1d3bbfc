package contact

import (
	"pinball/api"
	"pinball/arc"
	"pinball/entry"
	"pinball/flight"
	"pinball/flipper"
	"pinball/root"
	"pinball/vector"
	"pinball/wall"
)

// A scene is a table and its state, with the motions of a tick.
type scene struct {
	t     api.Table
	s     api.State
	m     []api.Motion
	next  []int
	boxes []box // of the Motions of balls that are not in the trough
}

// sceneOf returns the scene of what All is given, or the first error in that.
func sceneOf(t api.Table, s api.State, m []api.Motion, next []int) (scene, api.Errno) {
	if e := Valid(t, s); e != api.OK {
		return scene{}, e
	}
	if len(m) != len(s.Balls) || len(next) != len(t.Flippers) {
		return scene{}, api.ErrShape
	}
	x := scene{t, s, m, next, make([]box, len(m))}
	for i, b := range s.Balls {
		if b.Where == api.InTrough {
			continue
		}
		if !flight.Valid(m[i]) || m[i].P != b.P {
			return scene{}, api.ErrRange
		}
		x.boxes[i].lo, x.boxes[i].hi = flight.Box(m[i])
	}
	for i, f := range t.Flippers {
		if !within(f.Low, f.High, next[i]) {
			return scene{}, api.ErrRange
		}
	}
	return x, api.OK
}

// count returns the number of obstacles of a kind.
func (x *scene) count(kind int) int {
	switch kind {
	case api.KindWall:
		return len(x.t.Walls)
	case api.KindArc:
		return len(x.t.Arcs)
	case api.KindPost:
		return len(x.t.Posts)
	case api.KindFlipper:
		return len(x.t.Flippers)
	case api.KindBall:
		return len(x.s.Balls)
	}
	return 0
}

// contains reports whether c is a contact of this tick.
func (x *scene) contains(c api.Contact) bool {
	if !inList(len(x.s.Balls), c.Ball) || !inList(x.count(c.Kind), c.Index) {
		return false
	}
	at, found, _ := entry.First(x.conditions(c.Ball, c.Kind, c.Index))
	if !found {
		return false
	}
	order, e := root.Cmp(at, c.At)
	return e == api.OK && order == 0
}

// conditions returns the inequalities that hold while a ball is in an obstacle. There are none if the obstacle
// is not there for it, or too far away: to compare boxes is much faster than to build inequalities and to find
// out that they never hold.
func (x *scene) conditions(ball, kind, index int) [][]api.Poly {
	b, m, around, reach := x.s.Balls[ball], x.m[ball], x.boxes[ball], x.t.Radius
	if b.Where == api.InTrough {
		return nil
	}
	switch kind {
	case api.KindWall:
		if o := &x.t.Walls[index]; stands(&x.t, &x.s, index, b) && around.near(reach, o.A, o.B) {
			return wall.Capsule(m, o.A, o.B, reach)
		}
	case api.KindArc:
		o := x.t.Arcs[index]
		if radius, _ := arc.Radius(o); o.Level == b.Level && around.near(radius+reach, o.C) {
			return arc.Conditions(m, o, reach)
		}
	case api.KindPost:
		if o := &x.t.Posts[index]; o.Level == b.Level && around.near(reach+o.Size, o.C) {
			return wall.Disc(m, o.C, reach+o.Size)
		}
	case api.KindFlipper:
		if o := x.t.Flippers[index]; o.Level == b.Level && around.near(o.Length+reach, o.P) {
			return flipper.Conditions(m, o, x.s.K[index], x.next[index], reach)
		}
	case api.KindBall:
		return x.meeting(ball, index)
	}
	return nil
}

// meeting returns the inequality that holds while a ball is in another one with a greater number.
func (x *scene) meeting(ball, other int) [][]api.Poly {
	a, b, reach := x.s.Balls[ball], x.s.Balls[other], 2*x.t.Radius
	if other <= ball || b.Where == api.InTrough || a.Level != b.Level || !x.boxes[ball].near(reach, x.boxes[other].lo, x.boxes[other].hi) {
		return nil
	}
	m, o := x.m[ball], x.m[other]
	difference := api.Motion{P: vector.Sub(m.P, o.P), V: vector.Sub(m.V, o.V), H: vector.Sub(m.H, o.H)}
	return wall.Disc(difference, api.Vec{}, reach)
}

// A box is a rectangle that holds all positions of a flight.
type box struct{ lo, hi api.Vec }

// near reports whether b comes nearer than reach to the rectangle around the corners, in X and in Y.
func (b box) near(reach int, corners ...api.Vec) bool {
	lo, hi := corners[0], corners[0]
	for _, c := range corners {
		lo = api.Vec{X: min(lo.X, c.X), Y: min(lo.Y, c.Y)}
		hi = api.Vec{X: max(hi.X, c.X), Y: max(hi.Y, c.Y)}
	}
	return b.lo.X < hi.X+reach && lo.X-reach < b.hi.X && b.lo.Y < hi.Y+reach && lo.Y-reach < b.hi.Y
}
