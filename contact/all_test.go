package contact_test

import (
	"math"
	"testing"

	"pinball/api"
	"pinball/contact"
)

// none is the time of a contact that there is not.
const none = -1

// one is the list of one contact of ball 0, or of none.
func one(kind, index, at int) []event {
	if at == none {
		return nil
	}
	return []event{{0, kind, index, at}}
}

// begin is the state of t in which free balls on level 0 begin these Motions.
func begin(t api.Table, m ...api.Motion) api.State {
	s := state(t)
	for _, o := range m {
		s.Balls = append(s.Balls, api.Ball{Where: api.Free, P: o.P})
	}
	return s
}

// expectOne checks the contact of one ball with the only element of a table, on its level and on another one.
func expectOne(t *testing.T, element any, kind int, m api.Motion, at int) {
	t.Helper()
	x := table(1, element)
	s := begin(x, m)
	expectAll(t, x, s, []api.Motion{m}, s.K, one(kind, 0, at), element, m)
	s.Balls[0].Level = 3
	expectAll(t, x, s, []api.Motion{m}, s.K, nil, "on another level", element, m)
}

// P14.4: a ball and a wall.
func TestAllWithWalls(t *testing.T) {
	for _, kind := range []int{api.WallPlain, api.WallTarget, api.WallSling, api.WallGate} {
		floor := line(kind, 0, 0, 0, 900, 0)
		expectOne(t, floor, api.KindWall, fly(450, 150, 0, -100, 0, 0), 32)
		expectOne(t, floor, api.KindWall, fly(450, 150, 0, -50, 0, 0), none) // touches at the end of the tick
		expectOne(t, floor, api.KindWall, fly(450, 150, 0, -400, 0, 0), 8)   // goes through it
		expectOne(t, floor, api.KindWall, fly(450, 100, 0, -1, 0, 0), 0)     // touches, and goes in
		expectOne(t, floor, api.KindWall, fly(450, 100, 0, 1, 0, 0), none)
		expectOne(t, floor, api.KindWall, fly(450, 100, 7, 0, 0, 0), none) // touches all the time
		expectOne(t, floor, api.KindWall, fly(450, 100, 7, 0, 0, -1), 0)   // is pulled in
		expectOne(t, floor, api.KindWall, fly(450, 150, 0, 0, 0, -200), 32)
		expectOne(t, floor, api.KindWall, fly(450, 140, 0, -160, 0, 160), none) // touches at the vertex
		expectOne(t, floor, api.KindWall, fly(450, 130, 0, -160, 0, 160), 16)
		expectOne(t, floor, api.KindWall, fly(-200, 80, 280, 0, 0, 0), 32) // meets its end
		expectOne(t, floor, api.KindWall, fly(1100, 80, -280, 0, 0, 0), 32)
		if kind != api.WallGate {
			expectOne(t, floor, api.KindWall, fly(450, -150, 0, 100, 0, 0), 32)
			expectOne(t, floor, api.KindWall, fly(-200, 0, 200, 0, 0, 0), 32)
			expectOne(t, floor, api.KindWall, fly(1100, 0, -200, 0, 0, 0), 32)
		}
	}
	expectOne(t, line(api.WallPlain, 0, 0, 0, 300, 400), api.KindWall, fly(6, 308, 128, -96, 0, 0), 32)
}

// P14.4: a ball and an arc, a post, or a flipper at rest; other elements are no obstacles.
func TestAllWithOthers(t *testing.T) {
	curve := bow(0, vec(0, 0), vec(500, 0), vec(0, 500))
	expectOne(t, curve, api.KindArc, fly(120, 160, 240, 320, 0, 0), 32)   // from within
	expectOne(t, curve, api.KindArc, fly(600, 800, -480, -640, 0, 0), 32) // from outside
	expectOne(t, curve, api.KindArc, fly(600, 800, -240, -320, 0, 0), none)
	expectOne(t, curve, api.KindArc, fly(-120, -160, -240, -320, 0, 0), none) // where the arc is not
	expectOne(t, curve, api.KindArc, fly(500, -200, 0, 200, 0, 0), 32)
	expectOne(t, curve, api.KindArc, fly(0, 400, 0, 4, 0, 0), 0)
	bumper := post(0, 0, 0, 50)
	expectOne(t, bumper, api.KindPost, fly(0, 250, 0, -200, 0, 0), 32)
	expectOne(t, bumper, api.KindPost, fly(0, 250, 0, -100, 0, 0), none)
	expectOne(t, bumper, api.KindPost, fly(-250, 0, 0, 0, 400, 0), 32)
	expectOne(t, bumper, api.KindPost, fly(-400, 150, 900, 0, 0, 0), none) // passes it
	expectOne(t, bumper, api.KindPost, fly(-90, 120, 3, -4, 0, 0), 0)
	expectOne(t, bumper, api.KindPost, fly(-90, 120, -3, 4, 0, 0), none)
	expectOne(t, post(0, 0, 0, 0), api.KindPost, fly(0, 250, 0, -200, 0, 0), 48)
	blade := bat(0, 0, 0, 500)
	expectOne(t, blade, api.KindFlipper, fly(250, 150, 0, -100, 0, 0), 32)
	expectOne(t, blade, api.KindFlipper, fly(250, -150, 0, 200, 0, 0), 16)
	expectOne(t, blade, api.KindFlipper, fly(250, 150, 0, -50, 0, 0), none)
	expectOne(t, blade, api.KindFlipper, fly(700, 0, -200, 0, 0, 0), 32)
	expectOne(t, blade, api.KindFlipper, fly(-300, 0, 400, 0, 0, 0), 32)
	for _, element := range []any{cup(0, 0, 0, 50), api.Zone{Lo: vec(-100, -100), Hi: vec(100, 100)}, api.Lane{Size: 100}, api.Ramp{To: 2, Size: 100, Dir: vec(1, 0)}, api.Drain{Size: 100}, api.Launcher{}} {
		expectOne(t, element, api.KindWall, fly(250, 0, -500, 0, 0, 0), none)
	}
}

// P14.4: balls that come to within one unit of the surroundings of an obstacle, from all four sides, or touch them.
func TestAllWithBallsThatJustEnter(t *testing.T) {
	sides := []api.Vec{vec(1, 0), vec(0, 1), vec(-1, 0), vec(0, -1)}
	blade := func(k int, mirrored bool) (api.Flipper, int) {
		f := bat(0, 0, 0, 500)
		f.Low, f.Mirror = -256, mirrored
		return f, k
	}
	for i, side := range sides {
		right, left := sides[(i+3)%4], sides[(i+1)%4]
		f, k := blade([]int{0, 256, 0, -256}[i], i == 2)
		for _, o := range []struct {
			element    any
			kind, edge int
		}{
			{api.Wall{Kind: api.WallPlain, A: times(-900, side), B: side}, api.KindWall, 101},
			{api.Wall{Kind: api.WallSling, A: times(-900, left), B: times(900, left)}, api.KindWall, 100},
			{post(0, 0, 0, 50), api.KindPost, 150},
			{bow(0, vec(0, 0), plus(times(400, side), times(300, right)), plus(times(400, side), times(300, left))), api.KindArc, 600},
			{f, api.KindFlipper, 600},
		} {
			x := table(1, o.element)
			for depth := range 3 {
				from, to := times(o.edge+75, side), times(o.edge-depth, side)
				m := []api.Motion{{P: from, V: minus(to, from)}}
				s := begin(x, m...)
				if o.kind == api.KindFlipper {
					s.K[0] = k
				}
				l, e := contact.All(x, s, m, s.K)
				expect(t, e, api.OK, "the error of All")
				expect(t, len(l), min(depth, 1), "the number of contacts of", o, "with a ball to the depth", depth)
			}
		}
		x := table(2)
		for depth := range 3 {
			m := []api.Motion{{V: times(40, left)}, {P: times(275, side), V: plus(times(-75-depth, side), times(40, left))}}
			l, e := contact.All(x, begin(x, m...), m, nil)
			expect(t, e, api.OK, "the error of All")
			expect(t, len(l), min(depth, 1), "the number of contacts of two balls, to the depth", depth)
		}
	}
}

// P14.4: flippers move from their K in s to next.
func TestAllWithMovingBlades(t *testing.T) {
	for _, c := range []struct {
		from, to int
		m        api.Motion
		at       int
	}{
		{0, 256, fly(70, 260, 0, 0, 0, 0), 32}, // the blade is along (3, 4) then
		{0, 256, fly(30, 560, 80, -600, 0, 0), 32},
		{0, 0, fly(70, 260, 0, 0, 0, 0), none},
		{0, 128, fly(70, 260, 0, 0, 0, 0), none}, // touches at the end
		{128, 256, fly(70, 260, 0, 0, 0, 0), 0},
		{128, 0, fly(70, 260, 0, 0, 0, 0), none},
		{256, 0, fly(230, 140, 0, 0, 0, 0), 32},
		{0, 1, fly(250, 100, 0, 0, 0, 0), 0},
		{0, -1, fly(250, 100, 0, 0, 0, 0), none},
		{0, -1, fly(250, -100, 0, 0, 0, 0), 0},
		{-80, 256, fly(-100, 0, 0, 0, 0, 0), none},
	} {
		for _, mirrored := range []bool{false, true} {
			x, m := table(1, bat(0, 0, 0, 500)), c.m
			if mirrored {
				x.Flippers[0].Mirror, m.P.X, m.V.X = true, -m.P.X, -m.V.X
			}
			s := begin(x, m)
			s.K[0] = c.from
			expectAll(t, x, s, []api.Motion{m}, []int{c.to}, one(api.KindFlipper, 0, c.at), "from", c.from, "to", c.to, m)
		}
	}
	x := table(1, bat(0, 0, 0, 500), bat(0, 0, 0, 500), bat(0, 0, 0, 500))
	m := fly(70, 260, 0, 0, 0, 0)
	s := begin(x, m)
	s.K = []int{-80, 0, 0}
	expectAll(t, x, s, []api.Motion{m}, []int{127, 128, 256}, one(api.KindFlipper, 2, 32), "three flippers")
	s.K = []int{0, 128, -80}
	expectAll(t, x, s, []api.Motion{m}, []int{256, 128, -80}, one(api.KindFlipper, 0, 32), "three flippers")
}

// P14.4: contacts of two balls.
func TestAllWithTwoBalls(t *testing.T) {
	x := table(2)
	for _, c := range []struct {
		a, b api.Motion
		at   int
	}{
		{fly(0, 0, 100, 0, 0, 0), fly(400, 0, -300, 0, 0, 0), 32},
		{fly(0, 0, 0, 0, 0, 0), fly(400, 0, -400, 0, 0, 0), 32},
		{fly(0, 0, 400, 0, 0, 0), fly(400, 0, 0, 0, 0, 0), 32},
		{fly(0, 0, 0, 0, 0, 0), fly(400, 0, -200, 0, 0, 0), none},  // touch at the end
		{fly(0, 0, 400, 0, 0, 0), fly(0, 200, 400, 0, 0, 0), none}, // touch all the time
		{fly(0, 0, 400, 1, 0, 0), fly(0, 200, 400, 0, 0, 0), 0},
		{fly(0, 0, 400, -1, 0, 0), fly(0, 200, 400, 0, 0, 0), none},
		{fly(0, 0, 0, 0, 0, 0), fly(300, 0, 0, 0, -400, 0), 32},
		{fly(0, 0, 0, 0, 200, 0), fly(300, 0, 0, 0, -200, 0), 32},
		{fly(0, 0, 7, 9, 3, 100), fly(250, 0, -193, 9, 3, 100), 16},
		{fly(0, 0, 0, 0, 0, -4), fly(500, 0, 0, 0, 0, -4), none},
		{fly(0, 0, 100, 0, 0, 0), fly(240, 320, -140, -320, 0, 0), 32},
		{fly(0, 0, 400, 0, 0, 0), fly(200, 200, 0, 0, 0, 0), none}, // touch at 1/2
		{fly(0, 0, 320, 0, 0, 0), fly(280, 160, 0, 0, 0, 0), 32},
	} {
		m, reversed := []api.Motion{c.a, c.b}, []api.Motion{c.b, c.a}
		want := one(api.KindBall, 1, c.at)
		expectAll(t, x, begin(x, m...), m, nil, want, "two balls", c)
		expectAll(t, x, begin(x, reversed...), reversed, nil, want, "two balls exchanged", c)
		s := begin(x, m...)
		s.Balls[1].Level = 1
		expectAll(t, x, s, m, nil, nil, "on two levels", c)
		s.Balls[0].Level = 1
		expectAll(t, x, s, m, nil, want, "on level 1", c)
		s.Balls[0] = api.Ball{}
		expectAll(t, x, s, m, nil, nil, "one in the trough", c)
	}
}

// P14.4: each pair of balls has one contact, under the lesser number.
func TestAllWithEachPairOnce(t *testing.T) {
	x := table(6)
	m := []api.Motion{fly(0, 0, 400, 0, 0, 0), fly(0, 5000, 400, 0, 0, 0), fly(400, 0, 0, 0, 0, 0), fly(800, 5000, -400, 0, 0, 0), fly(800, 0, -400, 0, 0, 0), fly(400, 5000, 0, 0, 0, 0)}
	expectAll(t, x, begin(x, m...), m, nil, []event{
		{0, api.KindBall, 2, 32}, {0, api.KindBall, 4, 48}, {1, api.KindBall, 3, 48}, {1, api.KindBall, 5, 32}, {2, api.KindBall, 4, 32}, {3, api.KindBall, 5, 32},
	}, "six balls")
}

// P14.4: contacts of several kinds are ordered by Ball, Kind and Index, not by their times.
func TestAllInOrder(t *testing.T) {
	x := table(5,
		bat(0, -250, 500, 500), bat(1, -250, 500, 500), bat(0, -250, 850, 500),
		post(0, 0, 750, 40), post(0, 0, 500, 0), post(1, 0, 750, 40),
		bow(0, vec(0, 200), vec(300, 400), vec(-300, 400)), bow(1, vec(0, 200), vec(300, 400), vec(-300, 400)), bow(0, vec(0, 100), vec(400, 300), vec(-400, 300)),
		line(api.WallPlain, 0, -300, 700, 300, 700), line(api.WallTarget, 1, -300, 700, 300, 700), line(api.WallGate, 0, -300, 600, 300, 600), line(api.WallSling, 0, -300, 800, 300, 800),
	)
	m := []api.Motion{fly(0, 1000, 0, -640, 0, 0), fly(2000, 1000, 0, 0, 0, 0), fly(0, 1000, 0, -640, 0, 0), fly(2400, 1000, -400, 0, 0, 0), fly(0, 250, 0, 0, 0, 0)}
	s := begin(x, m...)
	s.Balls[2].Level = 1
	expectAll(t, x, s, m, s.K, []event{
		{0, api.KindWall, 0, 20}, {0, api.KindWall, 2, 30}, {0, api.KindWall, 3, 10}, {0, api.KindArc, 0, 20}, {0, api.KindArc, 2, 30},
		{0, api.KindPost, 0, 11}, {0, api.KindPost, 1, 40}, {0, api.KindFlipper, 0, 40}, {0, api.KindFlipper, 2, 5}, {0, api.KindBall, 4, 55},
		{1, api.KindBall, 3, 32},
		{2, api.KindWall, 1, 20}, {2, api.KindArc, 1, 20}, {2, api.KindPost, 2, 11}, {2, api.KindFlipper, 1, 40},
	}, "several kinds")
}

// P14.4: walls that are not Active are no obstacles.
func TestAllWithWallsThatAreNotActive(t *testing.T) {
	x := table(1, line(api.WallGate, 0, 0, 0, 900, 0), line(api.WallTarget, 0, 0, 1000, 900, 1000))
	for i, c := range []struct {
		m        api.Motion
		away     []bool
		wall, at int
	}{
		{fly(450, 150, 0, -100, 0, 0), []bool{false, false}, 0, 32},
		{fly(450, 150, 0, -100, 0, 0), []bool{true, false}, 0, none},
		{fly(450, -150, 0, 100, 0, 0), []bool{false, false}, 0, none}, // comes from behind
		{fly(450, -50, 0, 900, 0, 0), []bool{false, true}, 0, none},   // passes it
		{fly(450, 50, 0, -100, 0, 0), []bool{false, false}, 0, none},  // is in it already
		{fly(-200, 0, 200, 0, 0, 0), []bool{false, false}, 0, none},   // comes along its line
		{fly(-200, 80, 280, 0, 0, 0), []bool{false, false}, 0, 32},
		{fly(450, 850, 0, 100, 0, 0), []bool{false, false}, 1, 32},
		{fly(450, 850, 0, 100, 0, 0), []bool{false, true}, 1, none},
		{fly(450, 1150, 0, -100, 0, 0), []bool{true, false}, 1, 32},
		{fly(450, 1050, 0, -100, 0, 0), []bool{true, true}, 1, none},
	} {
		s := begin(x, c.m)
		s.Away = c.away
		expectAll(t, x, s, []api.Motion{c.m}, nil, one(api.KindWall, c.wall, c.at), "case", i)
	}
	y := table(2, line(api.WallGate, 0, 0, 0, 900, 0))
	m := []api.Motion{fly(200, -150, 0, 100, 0, 0), fly(700, 150, 0, -100, 0, 0)}
	expectAll(t, y, begin(y, m...), m, nil, []event{{1, api.KindWall, 0, 32}}, "two balls at a gate")
}

// P14.4: balls in the trough have no contacts, and their Motions are not looked at.
func TestAllWithBallsInTheTrough(t *testing.T) {
	x := table(3, line(api.WallPlain, 0, -900, 0, 900, 0), post(0, 0, 0, 50))
	moving := fly(500, 150, 0, -100, 0, 0)
	s := state(x, api.Ball{}, free(0, 500, 150), api.Ball{})
	for _, m := range []api.Motion{{}, fly(0, 200, 0, -100, 0, 0), moving, fly(1<<23+1, 0, 0, 0, 0, 0), fly(math.MinInt, math.MaxInt, math.MinInt, math.MaxInt, math.MinInt, math.MaxInt)} {
		expectAll(t, x, s, []api.Motion{m, moving, m}, nil, []event{{1, api.KindWall, 0, 32}}, "with", m, "in the trough")
	}
	expectAll(t, x, state(x, make([]api.Ball, 3)...), make([]api.Motion, 3), nil, nil, "all in the trough")
	expectAll(t, table(0), api.State{}, nil, nil, nil, "no balls")
}

// P14.4: caught balls have contacts like others, whether they move or not.
func TestAllWithCaughtBalls(t *testing.T) {
	x := table(3, cup(1, 500, 0, 50), cup(1, 2000, 0, 50), line(api.WallPlain, 1, 2200, -100, 2200, 100), bat(1, 500, -200, 500))
	s := state(x, free(1, 0, 0), caught(0, 1, 510, 0), caught(1, 1, 2000, 0))
	still := func(i int) api.Motion { return api.Motion{P: s.Balls[i].P} }
	to, aside := fly(0, 0, 620, 0, 0, 0), fly(2000, 0, 200, 0, 0, 0)
	expectAll(t, x, s, []api.Motion{to, still(1), still(2)}, []int{0}, []event{{0, api.KindBall, 1, 32}}, "a ball that comes to a saucer")
	expectAll(t, x, s, []api.Motion{still(0), still(1), aside}, []int{0}, []event{{2, api.KindWall, 0, 32}}, "a caught ball that moves")
	expectAll(t, x, s, []api.Motion{still(0), still(1), still(2)}, []int{0}, nil, "nothing moves")
	l, e := contact.All(x, s, []api.Motion{still(0), still(1), still(2)}, []int{256})
	if e != api.OK || len(l) != 1 || l[0].Ball != 1 || l[0].Kind != api.KindFlipper {
		t.Error("a blade that rises to a saucer:", l, e)
	}
}

// P14.4: Motions of two balls whose difference is at the ends of what is valid. Beyond them the difference is no
// valid Motion, so wall.Disc has no conjunctions for it.
func TestAllWithMotionsThatDifferMuch(t *testing.T) {
	x := table(2)
	for _, c := range []struct {
		way, v, h int // of their difference
		at        int
	}{
		{velocity/2 + 200, velocity, 0, 32},
		{velocity/2 + 200, velocity + 1, 0, none},
		{velocity/2 + 200, velocity * 2, 0, none},
		{half/4 + 200, 0, half, 32},
		{half/4 + 200, 0, half + 1, none},
		{half/4 + 200, 0, half * 2, none},
		{velocity/2 + half/4 + 200, velocity, half, 32},
		{velocity/2 + half/4 + 200, velocity + 1, half, none},
		{velocity/2 + half/4 + 200, velocity, half + 1, none},
	} {
		part := func(n int) int { return n - n/2 }
		a, b := fly(0, 7, part(c.v), 0, part(c.h), 0), fly(c.way, 7, -c.v/2, 0, -c.h/2, 0)
		turned := func(m api.Motion) api.Motion { return fly(m.P.Y, m.P.X, m.V.Y, m.V.X, m.H.Y, m.H.X) }
		for _, m := range [][]api.Motion{{a, b}, {b, a}, {turned(a), turned(b)}, {turned(b), turned(a)}} {
			expectAll(t, x, begin(x, m...), m, nil, one(api.KindBall, 1, c.at), "the difference", c)
		}
	}
	m := []api.Motion{fly(-coord, -coord, velocity/2, velocity/2, half/2, half/2), fly(coord, coord, -velocity/2, -velocity/2, -half/2, -half/2)}
	expectAll(t, x, begin(x, m...), m, nil, nil, "at opposite corners")
}

// P14.4: the fastest balls at the edge of the coordinates.
func TestAllAtTheEdge(t *testing.T) {
	x := table(1, line(api.WallPlain, 0, coord, -coord, coord, coord), post(0, -coord, coord, api.MaxSize))
	for _, c := range []struct {
		m        api.Motion
		kind, at int
	}{
		{fly(coord-100-velocity/2, 0, velocity, 0, 0, 0), api.KindWall, 32},
		{fly(coord-100-velocity, 0, velocity, 0, 0, 0), api.KindWall, none},
		{fly(coord-100-velocity, -coord, velocity, 0, 1, half), api.KindWall, 64},
		{fly(100-coord+api.MaxSize+velocity/2, coord, -velocity, 0, 0, 0), api.KindPost, 32},
		{fly(-coord, coord-100-api.MaxSize-half/4, 0, 0, 0, half), api.KindPost, 32},
	} {
		if c.at == 64 {
			l, e := contact.All(x, begin(x, c.m), []api.Motion{c.m}, nil)
			expect(t, e == api.OK && len(l) == 1 && sign(t, l[0].At, 63, 6) > 0 && sign(t, l[0].At, 1, 0) < 0, true, "a contact at the end of the tick")
			continue
		}
		expectAll(t, x, begin(x, c.m), []api.Motion{c.m}, nil, one(c.kind, 0, c.at), c.m)
	}
}

// expectError checks the error of All, and that there is no result.
func expectError(t *testing.T, x api.Table, s api.State, m []api.Motion, next []int, want api.Errno, what ...any) {
	t.Helper()
	l, e := contact.All(x, s, m, next)
	if e != want || e != api.OK && l != nil {
		t.Error(append(what, "All returns", l, e, "instead of", want)...)
	}
}

// stay are the Motions of balls that do not move.
func stay(s api.State) []api.Motion {
	var m []api.Motion
	for _, b := range s.Balls {
		m = append(m, api.Motion{P: b.P})
	}
	return m
}

// P14.4: the errors of Valid come first, then ErrShape.
func TestAllShape(t *testing.T) {
	x, s := hall()
	m, next := stay(s), []int{0, 9}
	expectError(t, x, s, m, next, api.OK, "hall")
	wrong := fly(1, 2, math.MinInt, 0, 0, 0)
	for i, c := range []struct {
		m    []api.Motion
		next []int
	}{
		{nil, next}, {m[:3], next}, {append(stay(s), api.Motion{}), next}, {m, nil}, {m, next[:1]}, {m, []int{0, 9, 9}}, {nil, nil}, {[]api.Motion{wrong}, next}, {m, []int{math.MinInt}}, {[]api.Motion{wrong, wrong, wrong, wrong, wrong}, []int{-999, -999}}, {[]api.Motion{wrong, wrong, wrong, wrong}, []int{-999}},
	} {
		expectError(t, x, s, c.m, c.next, api.ErrShape, "case", i)
		for _, o := range []struct {
			change func(x *api.Table, s *api.State)
			want   api.Errno
		}{
			{func(x *api.Table, s *api.State) { x.Radius = 0 }, api.ErrArg},
			{func(x *api.Table, s *api.State) { s.Speed = nil }, api.ErrShape},
			{func(x *api.Table, s *api.State) { s.Tick = -1 }, api.ErrRange},
			{func(x *api.Table, s *api.State) { s.Balls[0].P = vec(2000, 3000) }, api.ErrOverlap},
		} {
			y, z := hall()
			o.change(&y, &z)
			expectError(t, y, z, c.m, c.next, o.want, "case", i, "after a change")
			expectError(t, y, z, m, next, o.want, "after a change")
		}
	}
}

// P14.4: ErrRange for each Motion that is not valid or begins elsewhere, but of those in the trough.
func TestAllRange(t *testing.T) {
	x, s := hall()
	next := []int{0, 9}
	for ball, b := range s.Balls {
		want := api.ErrRange
		if b.Where == api.InTrough {
			want = api.OK
		}
		for _, d := range []api.Vec{vec(1, 0), vec(-1, 0), vec(0, 1), vec(0, -1), vec(1<<32, 0), vec(0, math.MinInt), vec(1<<23, 0), times(-1, b.P)} {
			m := stay(s)
			m[ball].P = plus(m[ball].P, d)
			expectError(t, x, s, m, next, want, "ball", ball, "begins elsewhere")
		}
		for _, c := range []struct {
			end int
			set func(m *api.Motion, n int)
		}{
			{velocity, func(m *api.Motion, n int) { m.V.X = n }},
			{velocity, func(m *api.Motion, n int) { m.V.Y = n }},
			{half, func(m *api.Motion, n int) { m.H.X = n }},
			{half, func(m *api.Motion, n int) { m.H.Y = n }},
		} {
			m := stay(s)
			for _, n := range []int{c.end, -c.end} {
				c.set(&m[ball], n)
				expectError(t, x, s, m, next, api.OK, "ball", ball, "at the end of a range")
			}
			for _, n := range beyond(-c.end, c.end) {
				c.set(&m[ball], n)
				expectError(t, x, s, m, next, want, "ball", ball, "beyond a range")
			}
		}
	}
	expectError(t, x, s, []api.Motion{{}, {}, {}, {}}, next, api.ErrRange, "no Motions")
}

// P14.4: each next from Low to High, and beyond.
func TestAllNext(t *testing.T) {
	x, s := hall()
	for i, f := range x.Flippers {
		next := []int{0, 9}
		for _, n := range []int{f.Low, f.High, f.Low + 1, f.High - 1} {
			next[i] = n
			expectError(t, x, s, stay(s), next, api.OK, "flipper", i, "to", n)
		}
		for _, n := range beyond(f.Low, f.High) {
			next[i] = n
			expectError(t, x, s, stay(s), next, api.ErrRange, "flipper", i, "to", n)
		}
	}
	for i := range s.Balls {
		s.Balls[i] = api.Ball{}
	}
	expectError(t, x, s, stay(s), []int{0, 201}, api.ErrRange, "a flipper without balls")
}

// P14.4: the examples.
func TestAllExamples(t *testing.T) {
	x := table(1, line(api.WallPlain, 0, -1000, 0, 1000, 0))
	for _, c := range []struct {
		m  api.Motion
		at int
	}{{fly(0, 150, 0, -100, 0, 0), 32}, {fly(0, 150, 0, -50, 0, 0), none}} {
		expectAll(t, x, begin(x, c.m), []api.Motion{c.m}, nil, one(api.KindWall, 0, c.at), c.m)
	}
}
