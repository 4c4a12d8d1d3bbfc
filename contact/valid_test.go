package contact_test

import (
	"math"
	"testing"

	"pinball/api"
	"pinball/contact"
)

// hall is a table with obstacles and saucers on several levels, and a state of it in which balls are at all places.
func hall() (api.Table, api.State) {
	t := table(4,
		line(api.WallPlain, 0, 0, 0, 900, 0),
		line(api.WallGate, 1, 0, 0, 900, 0),
		line(api.WallTarget, 1, 5000, 0, 5000, 400),
		line(api.WallSling, 1, 6000, 0, 6000, 400),
		bow(1, vec(9000, 9000), vec(500, 0), vec(0, 500)),
		post(1, 2000, 3000, 50),
		bat(1, 0, -5000, 900),
		bat(1, 4000, -5000, 900),
		cup(1, 7000, 7000, 50),
		cup(2, 7000, 7000, 65),
		cup(1, 8000, 7000, 99),
	)
	t.Flippers[1].Low, t.Flippers[1].High, t.Flippers[1].Max, t.Flippers[1].Mirror = 7, 200, 20, true
	s := state(t, free(1, 3000, 3000), caught(1, 2, 7000, 7000), api.Ball{}, caught(2, 1, 8000, 7000))
	s.K[1] = 9
	return t, s
}

// change is a change to hall, and the error of Valid after it.
type change struct {
	make func(t *api.Table, s *api.State)
	want api.Errno
}

// expectChanges checks Valid after each change for itself.
func expectChanges(t *testing.T, l []change) {
	t.Helper()
	for i, c := range l {
		x, s := hall()
		c.make(&x, &s)
		expectValid(t, x, s, c.want, "change", i)
	}
}

// P14.1: ordinary states, and the least ones.
func TestValid(t *testing.T) {
	x, s := hall()
	expectValid(t, x, s, api.OK, "hall")
	expectValid(t, table(0), api.State{}, api.OK, "no balls and elements")
	expectValid(t, table(0), api.State{Balls: []api.Ball{}, K: []int{}, Speed: []int{}, Away: []bool{}}, api.OK, "empty lists")
	expectValid(t, table(6), state(table(6), make([]api.Ball, 6)...), api.OK, "all balls in the trough")
	expectValid(t, api.Table{}, api.State{}, api.ErrArg, "no table")
	s.Coils = math.MaxUint32
	expectValid(t, x, s, api.OK, "any coils")
}

// P14.1: ErrArg for tables that are not valid, whatever the state is.
func TestValidTable(t *testing.T) {
	for i, spoil := range []func(x *api.Table){
		func(x *api.Table) { x.Radius = api.MinRadius - 1 },
		func(x *api.Table) { x.Radius = math.MinInt },
		func(x *api.Table) { x.Walls[0].A = x.Walls[0].B },
		func(x *api.Table) { x.Walls[1].Name = x.Walls[0].Name },
		func(x *api.Table) { x.Flippers[0].Low = x.Flippers[0].High },
		func(x *api.Table) { x.Saucers[2].C.X = 7148 },
		func(x *api.Table) { x.Saucers[0].Size = 100 },
		func(x *api.Table) { x.Balls = api.MaxBalls + 1 },
		func(x *api.Table) { x.Balls = -1 },
	} {
		x, s := hall()
		spoil(&x)
		expectValid(t, x, s, api.ErrArg, "table", i)
		s.Balls = nil
		expectValid(t, x, s, api.ErrArg, "table", i, "without balls")
		_, s = hall()
		s.Tick = -1
		expectValid(t, x, s, api.ErrArg, "table", i, "with a wrong tick")
		_, s = hall()
		s.Balls[0].P = vec(2000, 3000)
		expectValid(t, x, s, api.ErrArg, "table", i, "with a ball in a post")
	}
}

// P14.1: ErrShape for each list that is too short or too long.
func TestValidShape(t *testing.T) {
	lists := []struct{ shorter, longer, without func(s *api.State) }{
		{func(s *api.State) { s.Balls = s.Balls[:3] }, func(s *api.State) { s.Balls = append(s.Balls, api.Ball{}) }, func(s *api.State) { s.Balls = nil }},
		{func(s *api.State) { s.K = s.K[:1] }, func(s *api.State) { s.K = append(s.K, 0) }, func(s *api.State) { s.K = nil }},
		{func(s *api.State) { s.Speed = s.Speed[:1] }, func(s *api.State) { s.Speed = append(s.Speed, 0) }, func(s *api.State) { s.Speed = nil }},
		{func(s *api.State) { s.Away = s.Away[:3] }, func(s *api.State) { s.Away = append(s.Away, false) }, func(s *api.State) { s.Away = nil }},
	}
	for i, l := range lists {
		for j, f := range []func(s *api.State){l.shorter, l.longer, l.without} {
			x, s := hall()
			f(&s)
			expectValid(t, x, s, api.ErrShape, "list", i, "case", j)
			s.Tick = math.MinInt
			expectValid(t, x, s, api.ErrShape, "list", i, "case", j, "with a wrong tick")
		}
	}
	expectChanges(t, []change{
		{func(x *api.Table, s *api.State) { x.Balls = 3 }, api.ErrShape},
		{func(x *api.Table, s *api.State) { x.Balls = 5 }, api.ErrShape},
		{func(x *api.Table, s *api.State) { x.Walls = x.Walls[:3] }, api.ErrShape},
		{func(x *api.Table, s *api.State) { x.Flippers = x.Flippers[:1] }, api.ErrShape},
		{func(x *api.Table, s *api.State) { s.K, s.Speed = append(s.K, 0), s.Speed[:1] }, api.ErrShape},
		{func(x *api.Table, s *api.State) { s.Balls[0].P, s.K = vec(2000, 3000), s.K[:1] }, api.ErrShape},
		{func(x *api.Table, s *api.State) { s.Balls[0].Where, s.Away = 7, nil }, api.ErrShape},
	})
}

// P14.1: each number of a state at the ends of its range, and beyond them.
func TestValidNumbers(t *testing.T) {
	x, _ := hall()
	for i, c := range []struct {
		lo, hi int
		set    func(s *api.State, n int)
	}{
		{0, api.MaxTick, func(s *api.State, n int) { s.Tick = n }},
		{-80, 256, func(s *api.State, n int) { s.K[0] = n }},
		{7, 200, func(s *api.State, n int) { s.K[1] = n }},
		{-16, 16, func(s *api.State, n int) { s.Speed[0] = n }},
		{-20, 20, func(s *api.State, n int) { s.Speed[1] = n }},
		{0, api.MaxLevel, func(s *api.State, n int) { s.Balls[0].Level = n }},
		{-coord, coord, func(s *api.State, n int) { s.Balls[0].P.X = n }},
		{-coord, coord, func(s *api.State, n int) { s.Balls[0].P.Y = n }},
		{-coord, coord, func(s *api.State, n int) { s.Balls[0].P = vec(n, n) }},
		{-speed, speed, func(s *api.State, n int) { s.Balls[0].V.X = n }},
		{-speed, speed, func(s *api.State, n int) { s.Balls[0].V.Y = n }},
		{-speed, speed, func(s *api.State, n int) { s.Balls[0].V = vec(-n, n) }},
		{0, 0, func(s *api.State, n int) { s.Balls[0].Slot = n }},
		{2, 2, func(s *api.State, n int) { s.Balls[1].Level = n }},
		{0, 0, func(s *api.State, n int) { s.Balls[1].V.X = n }},
		{0, 0, func(s *api.State, n int) { s.Balls[1].V.Y = n }},
		{6936, 7064, func(s *api.State, n int) { s.Balls[1].P.X = n }},
		{6936, 7064, func(s *api.State, n int) { s.Balls[1].P.Y = n }},
		{1, 1, func(s *api.State, n int) { s.Balls[1].Slot = n }},
	} {
		for _, n := range []int{c.lo, c.hi, (c.lo + c.hi) / 2} {
			_, s := hall()
			c.set(&s, n)
			expectValid(t, x, s, api.OK, "number", i, "at", n)
		}
		for _, n := range beyond(c.lo, c.hi) {
			_, s := hall()
			c.set(&s, n)
			expectValid(t, x, s, api.ErrRange, "number", i, "at", n)
			s.Balls[0].P = vec(2000, 3000)
			if i < 6 || i > 8 {
				expectValid(t, x, s, api.ErrRange, "number", i, "at", n, "with a ball in a post")
			}
		}
	}
}

// P14.1: Away is for gates and targets only.
func TestValidAway(t *testing.T) {
	for i, want := range []api.Errno{api.ErrRange, api.OK, api.OK, api.ErrRange} {
		x, s := hall()
		s.Away[i] = true
		expectValid(t, x, s, want, "Away of the kind", x.Walls[i].Kind)
	}
}

// P14.1: places where balls are not, and fields of balls in the trough.
func TestValidPlaces(t *testing.T) {
	for _, n := range beyond(0, 2) {
		for ball := range 4 {
			x, s := hall()
			s.Balls[ball].Where = n
			expectValid(t, x, s, api.ErrRange, "Where", n, "of ball", ball)
		}
	}
	for i, b := range []api.Ball{{Slot: 1}, {Slot: -1}, {Level: 1}, {Level: math.MinInt}, {P: vec(1, 0)}, {P: vec(0, -1)}, {V: vec(1, 0)}, {V: vec(0, math.MaxInt)}} {
		x, s := hall()
		s.Balls[2] = b
		expectValid(t, x, s, api.ErrRange, "a ball in the trough", i)
	}
	expectChanges(t, []change{
		{func(x *api.Table, s *api.State) { s.Balls[2] = free(0, 0, 0) }, api.ErrOverlap},
		{func(x *api.Table, s *api.State) { s.Balls[2] = free(0, 0, 100) }, api.OK},
		{func(x *api.Table, s *api.State) { s.Balls[0].Where = api.InTrough }, api.ErrRange},
		{func(x *api.Table, s *api.State) { s.Balls[1].Where = api.Free }, api.ErrRange}, // has a Slot
		{func(x *api.Table, s *api.State) { s.Balls[1].Where, s.Balls[1].Slot = api.Free, 0 }, api.OK},
		{func(x *api.Table, s *api.State) { s.Balls[0].Where = api.Caught }, api.ErrRange}, // far from the saucer
	})
}

// P14.1: balls are caught in saucers of their level, one in each, at rest, and in its disc.
func TestValidCaught(t *testing.T) {
	put := func(ball int, b api.Ball) func(x *api.Table, s *api.State) {
		return func(x *api.Table, s *api.State) { s.Balls[ball] = b }
	}
	expectChanges(t, []change{
		{put(0, caught(0, 1, 7000, 7000)), api.OK},
		{put(0, caught(0, 2, 7000, 7000)), api.ErrRange}, // saucer 1 is there
		{put(1, caught(1, 1, 7000, 7000)), api.ErrRange},
		{put(1, caught(1, 0, 7000, 7000)), api.ErrRange},
		{put(1, caught(0, 1, 7000, 7000)), api.OK},
		{put(1, caught(0, 1, 8000, 7000)), api.ErrRange}, // that is saucer 2
		{put(1, caught(3, 2, 7000, 7000)), api.ErrRange},
		{put(1, caught(-1, 2, 7000, 7000)), api.ErrRange},
		{put(1, caught(math.MaxInt, 2, 7000, 7000)), api.ErrRange},
		{put(1, caught(math.MinInt, 2, 7000, 7000)), api.ErrRange},
		{put(0, caught(0, 1, 7049, 7000)), api.OK},
		{put(0, caught(0, 1, 7050, 7000)), api.ErrRange},
		{put(0, caught(0, 1, 7030, 7040)), api.ErrRange},
		{put(0, caught(0, 1, 7030, 7039)), api.OK},
		{put(0, caught(0, 1, 6970, 6960)), api.ErrRange},
		{put(0, caught(0, 1, 6971, 6960)), api.OK},
		{put(0, caught(2, 1, 8000, 7000)), api.ErrRange}, // ball 3 is there
		{put(0, caught(2, 1, 8098, 7000)), api.ErrRange},
		{put(0, api.Ball{Where: api.Caught, Level: 1, P: vec(7000, 7000), V: vec(0, 1)}), api.ErrRange},
		{func(x *api.Table, s *api.State) { s.Balls[0], s.Balls[3] = s.Balls[3], s.Balls[0] }, api.OK},
		{func(x *api.Table, s *api.State) { s.Balls[0], s.Balls[3] = s.Balls[3], caught(2, 1, 7902, 7000) }, api.ErrRange},
		{func(x *api.Table, s *api.State) { x.Saucers = nil }, api.ErrRange},
		{func(x *api.Table, s *api.State) { x.Saucers = x.Saucers[:2] }, api.ErrRange},
	})
}

// P14.1: ErrOverlap for overlaps of each kind, also of caught balls.
func TestValidOverlap(t *testing.T) {
	put := func(b api.Ball) func(x *api.Table, s *api.State) {
		return func(x *api.Table, s *api.State) { s.Balls[0] = b }
	}
	expectChanges(t, []change{
		{put(free(0, 450, 99)), api.ErrOverlap},
		{put(free(0, 450, 100)), api.OK},
		{put(free(1, 450, 50)), api.OK}, // in a gate
		{put(free(1, 4901, 200)), api.ErrOverlap},
		{put(free(1, 4900, 200)), api.OK},
		{put(free(1, 6099, 200)), api.ErrOverlap},
		{put(free(1, 9599, 9000)), api.ErrOverlap},
		{put(free(1, 9600, 9000)), api.OK},
		{put(free(1, 9360, 9480)), api.OK},
		{put(free(1, 9359, 9480)), api.ErrOverlap},
		{put(free(1, 2000, 2851)), api.ErrOverlap},
		{put(free(1, 2000, 2850)), api.OK},
		{put(free(1, 500, -4901)), api.ErrOverlap},
		{put(free(1, 500, -4900)), api.OK},
		{put(free(2, 7000, 7199)), api.ErrOverlap},
		{put(free(2, 7000, 7200)), api.OK},
		{put(free(1, 8000, 6801)), api.ErrOverlap},
		{put(free(1, 7000, 7000)), api.OK}, // in an empty saucer
		{put(free(2, 2000, 3000)), api.OK}, // there is nothing on this level
		{func(x *api.Table, s *api.State) { s.Balls[0], s.Away[2] = free(1, 5000, 200), true }, api.OK},
		{func(x *api.Table, s *api.State) { s.Balls[0], s.Away[1] = free(1, 450, 0), true }, api.OK},
		{func(x *api.Table, s *api.State) { s.Balls[0], s.K[0] = free(1, 500, -4900), 1 }, api.ErrOverlap},
		{func(x *api.Table, s *api.State) { s.Balls[0], s.K[0] = free(1, 99, -4500), 256 }, api.ErrOverlap},
		{func(x *api.Table, s *api.State) { x.Posts[0] = post(1, 8200, 7000, 60) }, api.ErrArg}, // without a name
		{func(x *api.Table, s *api.State) { x.Posts[0].C = vec(8149, 7000) }, api.ErrOverlap},   // over a caught ball
		{func(x *api.Table, s *api.State) { x.Posts[0].C = vec(8150, 7000) }, api.OK},
		{func(x *api.Table, s *api.State) { x.Posts[0].C = vec(7000, 7000) }, api.OK}, // over an empty saucer
		{func(x *api.Table, s *api.State) { x.Walls[3].A, x.Walls[3].B = vec(7950, 7000), vec(7900, 7000) }, api.ErrOverlap},
		{func(x *api.Table, s *api.State) { x.Walls[3].A, x.Walls[3].B = vec(7900, 7000), vec(7800, 7000) }, api.OK},
	})
}

// P14.1: balls in the trough overlap nothing, although they are at (0, 0).
func TestValidTrough(t *testing.T) {
	x := table(3, line(api.WallPlain, 0, -900, 0, 900, 0), post(0, 0, 0, 500))
	expectValid(t, x, state(x, api.Ball{}, api.Ball{}, api.Ball{}), api.OK, "balls in the trough")
	expectValid(t, x, state(x, api.Ball{}, free(0, 0, 0), api.Ball{}), api.ErrOverlap, "a ball in a post")
	y := table(2)
	expectValid(t, y, state(y, free(0, 0, 0), api.Ball{}), api.OK, "a ball where the trough is")
	expectValid(t, y, state(y, free(0, 0, 0), free(0, 199, 0)), api.ErrOverlap, "two balls")
	expectValid(t, y, state(y, free(0, 0, 0), free(0, 200, 0)), api.OK, "two balls that touch")
	expectValid(t, y, state(y, free(0, 0, 0), free(1, 199, 0)), api.OK, "two balls on two levels")
}

// P14.1: errors of the state of a ball come in front of overlaps of balls before it.
func TestValidOrder(t *testing.T) {
	inPost := func(s *api.State) { s.Balls[0].P = vec(2000, 3000) }
	for i, wrong := range []func(s *api.State){
		func(s *api.State) { s.Tick = -1 },
		func(s *api.State) { s.K[1] = 6 },
		func(s *api.State) { s.Speed[1] = 21 },
		func(s *api.State) { s.Away[3] = true },
		func(s *api.State) { s.Balls[2].Slot = 1 },
		func(s *api.State) { s.Balls[3].Slot = 1 },
		func(s *api.State) { s.Balls[3].Where = 3 },
	} {
		x, s := hall()
		inPost(&s)
		expectValid(t, x, s, api.ErrOverlap, "a ball in a post")
		wrong(&s)
		expectValid(t, x, s, api.ErrRange, "state", i)
		expect(t, contact.Valid(x, s), api.ErrRange, "the same state again")
	}
}
