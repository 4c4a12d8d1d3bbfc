package contact_test

import (
	"math"
	"math/rand/v2"
	"slices"
	"testing"

	"pinball/api"
	"pinball/contact"
)

// expectActive checks the result of Active.
func expectActive(t *testing.T, x api.Table, s api.State, ball int, want []bool, what ...any) {
	t.Helper()
	if l := contact.Active(x, s, ball); !slices.Equal(l, want) {
		t.Error(append(what, "Active of ball", ball, "is", l, "instead of", want)...)
	}
}

// P14.2: walls of the ball's level that are not away, each kind of them.
func TestActive(t *testing.T) {
	kinds := []int{api.WallPlain, api.WallGate, api.WallTarget, api.WallSling}
	x := table(3)
	for level := range api.MaxLevel + 1 {
		for _, kind := range kinds {
			x.Walls = append(x.Walls, line(kind, level, 0, 0, 900, 0))
		}
	}
	s := state(x, free(2, 450, 100), api.Ball{}, caught(0, 0, 450, -500))
	on := func(indices ...int) []bool {
		l := make([]bool, len(x.Walls))
		for _, i := range indices {
			l[i] = true
		}
		return l
	}
	expectActive(t, x, s, 0, on(8, 9, 10, 11))
	expectActive(t, x, s, 1, on(), "in the trough:")
	expectActive(t, x, s, 2, on(0, 2, 3), "caught, behind the gate:")
	for _, n := range append(beyond(0, 2), -1, 3) {
		expectActive(t, x, s, n, on(), "no such ball:")
	}
	s.Away = on(1, 2, 9)
	expectActive(t, x, s, 0, on(8, 10, 11), "the gate is open:")
	expectActive(t, x, s, 2, on(0, 3), "the target is down:")
	s.Away = on(10)
	expectActive(t, x, s, 0, on(8, 9, 11), "the target is down:")
	expectActive(t, table(1), state(table(1), free(0, 0, 0)), 0, nil, "no walls:")
}

// P14.2: gates are there for balls on their left that are not in their capsule.
func TestActiveGates(t *testing.T) {
	for _, c := range []struct {
		p    api.Vec
		want bool
	}{
		{vec(450, 100), true},  // exactly at the capsule
		{vec(450, 99), false},  // just in it
		{vec(450, 101), true},  // just outside
		{vec(450, 5000), true}, // in front
		{vec(450, 50), false},
		{vec(450, 0), false},  // on the segment
		{vec(450, -1), false}, // behind
		{vec(450, -100), false},
		{vec(450, -5000), false},
		{vec(-100, 0), false}, // on the line
		{vec(-5000, 0), false},
		{vec(1000, 0), false},
		{vec(9000, 0), false},
		{vec(-5000, 1), true}, // beside, but on the left
		{vec(-99, 1), false},
		{vec(-100, 1), true},
		{vec(-60, 80), true},
		{vec(-60, 79), false},
		{vec(960, 80), true},
		{vec(959, 80), false},
		{vec(1000, 1), true},
		{vec(999, 1), false},
		{vec(5000, -1), false},
		{vec(0, 100), true},
		{vec(0, 99), false},
		{vec(coord, coord), true},
		{vec(-coord, -coord), false},
	} {
		for _, kind := range []int{api.WallGate, api.WallPlain} {
			want := c.want || kind == api.WallPlain
			x := table(1, line(kind, 0, 0, 0, 900, 0), line(kind, 0, 0, 0, 0, 900), line(kind, 0, 0, 0, -900, 0))
			expect(t, contact.Active(x, state(x, free(0, c.p.X, c.p.Y)), 0)[0], want, "ahead", c.p)
			expect(t, contact.Active(x, state(x, free(0, -c.p.Y, c.p.X)), 0)[1], want, "turned", c.p)
			expect(t, contact.Active(x, state(x, free(0, -c.p.X, -c.p.Y)), 0)[2], want, "reversed", c.p)
		}
	}
	x := table(1, line(api.WallGate, 0, 100, 200, 400, 600))
	for _, c := range []struct {
		p    api.Vec
		want bool
	}{{vec(170, 460), true}, {vec(171, 460), false}, {vec(170, 459), false}, {vec(330, 340), false}, {vec(400, 600), false}, {vec(700, 1000), false}, {vec(699, 1000), true}, {vec(701, 1000), false}} {
		expectActive(t, x, state(x, free(0, c.p.X, c.p.Y)), 0, []bool{c.want}, "an oblique gate", c.p)
	}
	flat := table(1, line(api.WallGate, 0, 0, 0, 900, 1)) // (1800, 2) is on its line
	for d, want := range map[int]bool{-1: true, 0: false, 1: false} {
		expectActive(t, flat, state(flat, free(0, 1800+d, 2)), 0, []bool{want}, "next to the line:")
		expectActive(t, flat, state(flat, free(0, -1800+d, -2)), 0, []bool{want}, "next to the line:")
	}
	// The reach is the radius of the balls.
	x.Radius = 300
	expectActive(t, x, state(x, free(0, 100-300, 200)), 0, []bool{true}, "a greater ball")
	expectActive(t, x, state(x, free(0, 100-299, 200)), 0, []bool{false}, "a greater ball")
}

// P14.2: gates against rational numbers.
func TestActiveOfRandomGates(t *testing.T) {
	r := rand.New(rand.NewPCG(1, 14))
	both := [2]int{}
	for range 5000 {
		n := []int{150, 400, coord}[r.IntN(3)]
		anywhere := func() api.Vec { return vec(r.IntN(2*n+1)-n, r.IntN(2*n+1)-n) }
		x := table(1, api.Wall{Kind: api.WallGate, A: anywhere(), B: anywhere()})
		x.Radius = 64 + r.IntN(100)
		p := anywhere()
		a, b := at(x.Walls[0].A), at(x.Walls[0].B)
		want := b.less(a).cross(at(p).less(a)).Sign() > 0 && !bySegment(at(p), a, b, x.Radius)
		expectActive(t, x, state(x, api.Ball{Where: api.Free, P: p}), 0, []bool{want}, "of", x.Walls, p)
		if want {
			both[0]++
		} else {
			both[1]++
		}
	}
	if min(both[0], both[1]) < 1000 {
		t.Error("only", both, "gates that are there, and that are not")
	}
}

// R1 and R3: states that do not fit, and walls that are no walls.
func TestActiveOfOthers(t *testing.T) {
	x := table(1, line(api.WallPlain, 0, 0, 0, 900, 0), line(api.WallTarget, 0, 0, 0, 900, 0), line(api.WallTarget, 0, 0, 0, 900, 0))
	s := state(x, free(0, 0, 500))
	s.Away = []bool{false, true}
	expectActive(t, x, s, 0, []bool{true, false, true}, "a list that is too short:")
	s.Away = []bool{false, false, true, true, true}
	expectActive(t, x, s, 0, []bool{true, true, false}, "a list that is too long:")
	s.Away = nil
	expectActive(t, x, s, 0, []bool{true, true, true}, "no list:")
	s.Balls = nil
	expectActive(t, x, s, 0, []bool{false, false, false}, "no balls:")
	for _, n := range []int{math.MinInt, math.MaxInt} {
		y := table(1, line(api.WallGate, n, n, n, -n, 5))
		contact.Active(y, state(y, free(n, n, -n)), 0)
	}
}
