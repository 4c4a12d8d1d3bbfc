package contact_test

import (
	"math/rand/v2"

	"pinball/api"
	"pinball/contact"
	"pinball/layout"
)

// some is a random number from -n to n; many are 0.
func some(r *rand.Rand, n int) int {
	if r.IntN(5) == 0 {
		return 0
	}
	return r.IntN(2*n+1) - n
}

// anywhere is a random vector with components from -n to n.
func anywhere(r *rand.Rand, n int) api.Vec {
	return vec(some(r, n), some(r, n))
}

// ends are the vectors of the length 5 and their multiples, on which arcs with whole radii can begin and end.
func ends(n int) []api.Vec {
	var l []api.Vec
	for _, a := range [][2]int{{5, 0}, {4, 3}, {3, 4}, {0, 5}, {-3, 4}, {-4, 3}, {-5, 0}, {-4, -3}, {-3, -4}, {0, -5}, {3, -4}, {4, -3}} {
		l = append(l, times(n, vec(a[0], a[1])))
	}
	return l
}

// scenery is a random valid table of two levels with all kinds of elements near (0, 0), and a valid state of it.
func scenery(r *rand.Rand) (api.Table, api.State) {
	for {
		x := elements(r)
		if layout.Check(x) != api.OK {
			continue
		}
		s := state(x, make([]api.Ball, x.Balls)...)
		for i, f := range x.Flippers {
			s.K[i], s.Speed[i] = f.Low+r.IntN(f.High-f.Low+1), r.IntN(2*f.Max+1)-f.Max
		}
		for i, w := range x.Walls {
			s.Away[i] = (w.Kind == api.WallGate || w.Kind == api.WallTarget) && r.IntN(4) == 0
		}
		settle(r, x, s)
		if contact.Valid(x, s) == api.OK {
			return x, s
		}
	}
}

// elements is such a table, which need not be valid.
func elements(r *rand.Rand) api.Table {
	const width = 1500
	x := table(r.IntN(5))
	x.Radius = 64 + r.IntN(60)
	name := func() string {
		return string([]byte{'a' + byte(r.IntN(26)), 'a' + byte(r.IntN(26)), 'a' + byte(r.IntN(26))})
	}
	for range r.IntN(7) {
		x.Walls = append(x.Walls, api.Wall{Name: name(), Kind: 1 + r.IntN(4), Level: r.IntN(2), A: anywhere(r, width), B: anywhere(r, width)})
	}
	for range r.IntN(3) {
		o, i := ends(30+r.IntN(150)), r.IntN(12)
		a := bow(r.IntN(2), anywhere(r, width), o[i], o[(i+1+r.IntN(5))%12])
		a.Name = name()
		x.Arcs = append(x.Arcs, a)
	}
	for range r.IntN(4) {
		x.Posts = append(x.Posts, api.Post{Name: name(), Level: r.IntN(2), C: anywhere(r, width), Size: some(r, 150)})
	}
	for range r.IntN(3) {
		low := some(r, 250)
		x.Flippers = append(x.Flippers, api.Flipper{Name: name(), Level: r.IntN(2), P: anywhere(r, width), Length: 1 + r.IntN(1000), Mirror: r.IntN(2) == 0, Low: low, High: min(low+1+r.IntN(200), 256), Up: 1, Down: 1, Max: 1 + r.IntN(64)})
	}
	for range r.IntN(3) {
		x.Saucers = append(x.Saucers, api.Saucer{Name: name(), Level: r.IntN(2), C: anywhere(r, width), Size: 1 + r.IntN(63)})
	}
	return x
}

// settle puts balls at random places of a state.
func settle(r *rand.Rand, x api.Table, s api.State) {
	for i := range s.Balls {
		if len(x.Saucers) > 0 && r.IntN(4) == 0 {
			slot := r.IntN(len(x.Saucers))
			o := x.Saucers[slot]
			s.Balls[i] = api.Ball{Where: api.Caught, Slot: slot, Level: o.Level, P: plus(o.C, anywhere(r, o.Size*7/10))}
		} else if r.IntN(6) > 0 {
			s.Balls[i] = api.Ball{Where: api.Free, Level: r.IntN(2), P: anywhere(r, 1500), V: anywhere(r, 900)}
		}
		b := s.Balls[i]
		for range 20 {
			if b.Where != api.Free || !contact.Overlap(x, s, b.Level, b.P, i) {
				break
			}
			b.P = anywhere(r, 1500)
			s.Balls[i] = b
		}
	}
}

// flights are random Motions of the balls of s, many of them toward something, and tangents of its flippers at the end of a tick.
func flights(r *rand.Rand, x api.Table, s api.State) ([]api.Motion, []int) {
	var m []api.Motion
	for _, b := range s.Balls {
		o := api.Motion{P: b.P, V: anywhere(r, []int{0, 60, 1500, 5000}[r.IntN(4)]), H: anywhere(r, []int{0, 8, 500}[r.IntN(3)])}
		if r.IntN(3) > 0 {
			o.V = minus(minus(nearby(r, x, s), b.P), o.H)
		}
		m = append(m, o)
	}
	var next []int
	for i, f := range x.Flippers {
		next = append(next, min(max(s.K[i]+some(r, 64), f.Low), f.High))
	}
	return m, next
}

// nearby is a random position that is about as far from something as balls can be.
func nearby(r *rand.Rand, x api.Table, s api.State) api.Vec {
	l := []api.Vec{anywhere(r, 1500)}
	reach := x.Radius
	for _, w := range x.Walls {
		part := r.IntN(101)
		l = append(l, plus(w.A, vec((w.B.X-w.A.X)*part/100, (w.B.Y-w.A.Y)*part/100)))
	}
	for _, a := range x.Arcs {
		l = append(l, a.S, a.E, plus(a.S, minus(a.E, a.C)))
	}
	for _, o := range x.Posts {
		l = append(l, o.C)
	}
	for _, f := range x.Flippers {
		l = append(l, f.P)
	}
	for _, b := range s.Balls {
		l = append(l, b.P)
	}
	i := r.IntN(len(l))
	if i >= len(l)-len(s.Balls) {
		reach *= 2
	}
	way := ends(1)[r.IntN(12)]
	return plus(plus(l[i], vec(way.X*reach/5, way.Y*reach/5)), anywhere(r, 20))
}
