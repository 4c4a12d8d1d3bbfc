package contact_test

import (
	"math"
	"math/rand/v2"
	"testing"

	"pinball/api"
	"pinball/arc"
	"pinball/contact"
	"pinball/entry"
	"pinball/flight"
	"pinball/flipper"
	"pinball/poly"
	"pinball/vector"
	"pinball/wall"
)

// expectNormal checks the only contact of a tick.
func expectNormal(t *testing.T, x api.Table, s api.State, m []api.Motion, next []int, n, w api.Vec) {
	t.Helper()
	l, e := contact.All(x, s, m, next)
	if e != api.OK || len(l) != 1 {
		t.Error("All returns", l, e)
		return
	}
	a, b := contact.Normal(x, s, m, next, l[0])
	expect(t, [2]api.Vec{a, b}, [2]api.Vec{n, w}, "Normal of", l[0], m)
}

// expectNormalOf checks the contact of one ball with one element at rest.
func expectNormalOf(t *testing.T, element any, m api.Motion, n api.Vec) {
	t.Helper()
	x := table(1, element)
	s := begin(x, m)
	expectNormal(t, x, s, []api.Motion{m}, s.K, n, vec(0, 0))
}

// P14.6: contacts with one obstacle, at sixteenths and at other times.
func TestNormal(t *testing.T) {
	floor, slope := line(api.WallPlain, 0, 0, 0, 900, 0), line(api.WallPlain, 0, 0, 0, 300, 400)
	expectNormalOf(t, floor, fly(450, 150, 0, -100, 0, 0), vec(0, 1))
	expectNormalOf(t, floor, fly(450, 150, 0, -77, 0, 0), vec(0, 1))
	expectNormalOf(t, floor, fly(450, -150, 0, 77, 0, 0), vec(0, -1))
	expectNormalOf(t, slope, fly(6, 308, 128, -96, 0, 0), vec(-4, 3))
	expectNormalOf(t, slope, fly(294, 92, -128, 96, 0, 0), vec(4, -3))
	expectNormalOf(t, floor, fly(-200, 80, 280, 0, 0, 0), vec(-15360, 20480)) // at its end, at (-60, 80)
	expectNormalOf(t, floor, fly(-200, 80, 150, 0, 0, 0), vec(-17600, 20480)) // at 14/15: at (-68.75, 80)
	expectNormalOf(t, floor, fly(1100, -80, -280, 0, 0, 0), vec(15360, -20480))
	expectNormalOf(t, line(api.WallGate, 0, 0, 0, 900, 0), fly(450, 150, 0, -100, 0, 0), vec(0, 1))
	curve := bow(0, vec(0, 0), vec(500, 0), vec(0, 500))
	expectNormalOf(t, curve, fly(120, 160, 240, 320, 0, 0), vec(-61440, -81920))
	expectNormalOf(t, curve, fly(600, 800, -480, -640, 0, 0), vec(92160, 122880))
	expectNormalOf(t, curve, fly(600, 800, -300, -400, 0, 0), vec(96000, 128000)) // at 4/5: at (375, 500)
	expectNormalOf(t, curve, fly(500, -200, 0, 200, 0, 0), vec(0, -25600))
	expectNormalOf(t, post(0, 0, 0, 50), fly(0, 250, 0, -200, 0, 0), vec(0, 38400))
	expectNormalOf(t, post(0, 0, 0, 50), fly(0, 250, 0, -150, 0, 0), vec(0, 40000)) // at 2/3: at (0, 156.25)
	expectNormalOf(t, post(0, 700, -7, 50), fly(610, 113, 30, -40, 0, 0), vec(-23040, 30720))
	expectNormalOf(t, bat(0, 0, 0, 500), fly(250, 150, 0, -100, 0, 0), vec(0, 25600))
	expectNormalOf(t, bat(0, 0, 0, 500), fly(250, 150, 0, -75, 0, 0), vec(0, 26400)) // at 2/3: at (250, 103.125)
	expectNormalOf(t, bat(0, 0, 0, 500), fly(700, 0, -200, 0, 0, 0), vec(25600, 0))
}

// P14.6: blades that move drive balls.
func TestNormalOfMovingBlades(t *testing.T) {
	x := table(1, bat(0, 0, 0, 500))
	m := []api.Motion{fly(70, 260, 0, 0, 0, 0)}
	s := begin(x, m...)
	expectNormal(t, x, s, m, []int{256}, vec(-20480, 15360), vec(-450, 337))
	q := vec(70*256, 260*256)
	for _, c := range []struct{ from, to, j int }{{0, 200, 10}, {0, 129, 15}, {-80, 256, 9}, {100, 200, 4}} { // the blade is at 128 a little later than j
		s.K[0] = c.from
		foot, n := flipper.Foot(q, x.Flippers[0], c.from, c.to, c.j), flipper.Normal(q, x.Flippers[0], c.from, c.to, c.j)
		expectNormal(t, x, s, m, []int{c.to}, n, flipper.Surface(foot, x.Flippers[0], c.from, c.to))
	}
	y := table(1, bat(0, 0, 0, 500), bat(0, 4000, 0, 500))
	y.Flippers[1].Mirror = true
	m = []api.Motion{fly(3930, 260, 0, 0, 0, 0)}
	s = begin(y, m...)
	s.K[0] = 9
	expectNormal(t, y, s, m, []int{99, 256}, vec(20480, 15360), vec(450, 337))
}

// P14.6: of two balls, it is the one with the lesser number that is pushed.
func TestNormalOfTwoBalls(t *testing.T) {
	x := table(2)
	for _, c := range []struct {
		a, b api.Motion
		n    api.Vec
	}{
		{fly(0, 0, 100, 0, 0, 0), fly(400, 0, -300, 0, 0, 0), vec(-51200, 0)},
		{fly(400, 0, -300, 0, 0, 0), fly(0, 0, 100, 0, 0, 0), vec(51200, 0)},
		{fly(0, 0, 0, 0, 0, 0), fly(400, 0, -300, 0, 0, 0), vec(-54400, 0)}, // at 2/3: 212.5 between them
		{fly(0, 0, 100, 0, 0, 0), fly(240, 320, -140, -320, 0, 0), vec(-120*256, -160*256)},
		{fly(0, 0, 0, 0, 200, 0), fly(300, 0, 0, 0, -200, 0), vec(-51200, 0)},
	} {
		m := []api.Motion{c.a, c.b}
		expectNormal(t, x, begin(x, m...), m, nil, c.n, vec(0, 0))
	}
}

// normalOf is Normal in the words of the chapter, for a contact of All.
func normalOf(x api.Table, s api.State, m []api.Motion, next []int, c api.Contact) (n, w api.Vec) {
	j, _ := entry.Sixteenth(c.At)
	q := flight.At(m[c.Ball], j)
	switch c.Kind {
	case api.KindWall:
		n = wall.CapsuleNormal(q, x.Walls[c.Index].A, x.Walls[c.Index].B)
	case api.KindArc:
		n = arc.Normal(q, x.Arcs[c.Index])
	case api.KindPost:
		n = wall.DiscNormal(q, x.Posts[c.Index].C)
	case api.KindFlipper:
		n = flipper.Normal(q, x.Flippers[c.Index], s.K[c.Index], next[c.Index], j)
		w = flipper.Surface(flipper.Foot(q, x.Flippers[c.Index], s.K[c.Index], next[c.Index], j), x.Flippers[c.Index], s.K[c.Index], next[c.Index])
	case api.KindBall:
		n = vector.Halve(minus(q, flight.At(m[c.Index], j)))
	}
	return n, w
}

// P14.6: the normals of random contacts, and no others.
func TestNormalOfRandomContacts(t *testing.T) {
	r := rand.New(rand.NewPCG(7, 14))
	kinds := [6]int{}
	for range 700 {
		x, s := scenery(r)
		m, next := flights(r, x, s)
		l, _ := contact.All(x, s, m, next)
		for _, c := range l {
			kinds[c.Kind]++
			n, w := contact.Normal(x, s, m, next, c)
			a, b := normalOf(x, s, m, next, c)
			expect(t, [2]api.Vec{n, w}, [2]api.Vec{a, b}, "Normal of", c)
			expect(t, n != vec(0, 0), true, "there is a normal of", c)
		}
	}
	for kind := api.KindWall; kind <= api.KindBall; kind++ {
		if kinds[kind] < 20 {
			t.Error("only", kinds[kind], "contacts of the kind", kind)
		}
	}
}

// expectNoNormal checks that there is no normal.
func expectNoNormal(t *testing.T, x api.Table, s api.State, m []api.Motion, next []int, c api.Contact, what ...any) {
	t.Helper()
	n, w := contact.Normal(x, s, m, next, c)
	expect(t, [2]api.Vec{n, w}, [2]api.Vec{}, append(what, "Normal of", c)...)
}

// crowd is a table in a tick with a contact of each kind at 1/2.
func crowd() (api.Table, api.State, []api.Motion, []int) {
	x := table(6, line(api.WallPlain, 0, 0, 0, 900, 0), post(0, 2000, 0, 0), bat(0, 3000, 0, 500), bow(0, vec(5000, -500), vec(300, 400), vec(-300, 400)), line(api.WallTarget, 1, 0, 0, 900, 0), line(api.WallGate, 0, 900, 0, 0, 0))
	m := []api.Motion{fly(450, 150, 0, -100, 0, 0), fly(2000, 150, 0, -100, 0, 0), fly(3250, 150, 0, -100, 0, 0), fly(5000, 150, 0, -100, 0, 0), fly(850, 150, -400, -100, 0, 0), {}}
	s := begin(x, m...)
	s.Balls[5] = api.Ball{}
	return x, s, m, []int{0}
}

// P14.6: contacts that All did not return.
func TestNormalOfOtherContacts(t *testing.T) {
	x, s, m, next := crowd()
	half := moment(1, 1)
	expectAll(t, x, s, m, next, []event{{0, api.KindWall, 0, 32}, {0, api.KindBall, 4, 32}, {1, api.KindPost, 0, 32}, {2, api.KindFlipper, 0, 32}, {3, api.KindArc, 0, 32}, {4, api.KindWall, 0, 32}}, "crowd")
	l, _ := contact.All(x, s, m, next)
	for _, c := range l {
		if n, _ := contact.Normal(x, s, m, next, c); n == vec(0, 0) {
			t.Error("no normal of", c)
		}
		for _, o := range beyond(0, 5) {
			expectNoNormal(t, x, s, m, next, api.Contact{Ball: o, Kind: c.Kind, Index: c.Index, At: c.At})
			expectNoNormal(t, x, s, m, next, api.Contact{Ball: c.Ball, Kind: o, Index: c.Index, At: c.At})
			expectNoNormal(t, x, s, m, next, api.Contact{Ball: c.Ball, Kind: c.Kind, Index: o, At: c.At})
			expectNoNormal(t, x, s, m, next, api.Contact{Ball: o, Kind: o, Index: o, At: c.At})
		}
		for ball := range 6 {
			for kind := range 7 {
				for index := range 6 {
					if ball != c.Ball || kind != c.Kind || index != c.Index {
						if other := (api.Contact{Ball: ball, Kind: kind, Index: index, At: half}); !among(l, other) {
							expectNoNormal(t, x, s, m, next, other)
						}
					}
				}
			}
		}
		for _, r := range []api.Root{{}, moment(0, 0), moment(1, 0), moment(-1, 1), moment(1<<40+1, 41), moment(1<<40-1, 41), {P: poly.Of(1)}, {P: half.P, Lo: half.Lo}} {
			expectNoNormal(t, x, s, m, next, api.Contact{Ball: c.Ball, Kind: c.Kind, Index: c.Index, At: r})
		}
		for _, r := range halves(t) {
			a, _ := contact.Normal(x, s, m, next, c)
			b, _ := contact.Normal(x, s, m, next, api.Contact{Ball: c.Ball, Kind: c.Kind, Index: c.Index, At: r})
			expect(t, b, a, "Normal at another form of the time", r)
		}
	}
}

// among reports whether l has a contact of the same ball with the same obstacle.
func among(l []api.Contact, c api.Contact) bool {
	for _, o := range l {
		if o.Ball == c.Ball && o.Kind == c.Kind && o.Index == c.Index {
			return true
		}
	}
	return false
}

// P14.6: where All returns an error, it returns no contact.
func TestNormalWithErrors(t *testing.T) {
	for i, spoil := range []func(x *api.Table, s *api.State, m *[]api.Motion, next *[]int){
		func(x *api.Table, s *api.State, m *[]api.Motion, next *[]int) { x.Radius = math.MaxInt },
		func(x *api.Table, s *api.State, m *[]api.Motion, next *[]int) { x.Walls = nil },
		func(x *api.Table, s *api.State, m *[]api.Motion, next *[]int) { s.Balls = nil },
		func(x *api.Table, s *api.State, m *[]api.Motion, next *[]int) { s.K = nil },
		func(x *api.Table, s *api.State, m *[]api.Motion, next *[]int) { s.Tick = -1 },
		func(x *api.Table, s *api.State, m *[]api.Motion, next *[]int) { s.Balls[3].P = s.Balls[2].P },
		func(x *api.Table, s *api.State, m *[]api.Motion, next *[]int) { *m = nil },
		func(x *api.Table, s *api.State, m *[]api.Motion, next *[]int) { *m = (*m)[:5] },
		func(x *api.Table, s *api.State, m *[]api.Motion, next *[]int) { *next = nil },
		func(x *api.Table, s *api.State, m *[]api.Motion, next *[]int) { (*next)[0] = 257 },
		func(x *api.Table, s *api.State, m *[]api.Motion, next *[]int) { (*m)[3].P.X++ },
		func(x *api.Table, s *api.State, m *[]api.Motion, next *[]int) { (*m)[3].V.X = velocity + 1 },
	} {
		x, s, m, next := crowd()
		l, _ := contact.All(x, s, m, next)
		spoil(&x, &s, &m, &next)
		for _, c := range l {
			expectNoNormal(t, x, s, m, next, c, "case", i)
		}
	}
}

// P14.6: numbers of obstacles, for both balls of a contact.
func TestKey(t *testing.T) {
	for _, c := range []struct{ ball, kind, index, of, want int }{
		{0, api.KindWall, 0, 0, 1000}, {3, api.KindWall, 63, 3, 1063}, {0, api.KindArc, 31, 0, 2031}, {5, api.KindPost, 7, 5, 3007}, {1, api.KindFlipper, 3, 1, 4003},
		{1, api.KindBall, 4, 1, 5004}, {1, api.KindBall, 4, 4, 5001}, {0, api.KindBall, 5, 5, 5000}, {0, api.KindBall, 5, 0, 5005},
		{1, api.KindWall, 4, 4, -1}, {1, api.KindArc, 4, 4, -1}, {1, api.KindPost, 4, 4, -1}, {1, api.KindFlipper, 3, 3, -1}, {1, 0, 4, 4, -1}, {1, 6, 4, 4, -1}, // the obstacle is no ball
		{1, api.KindBall, 4, 0, -1}, {1, api.KindBall, 4, 2, -1}, {1, api.KindBall, 4, 5, -1}, {1, api.KindBall, 4, -1, -1}, {1, api.KindBall, 4, math.MinInt, -1}, {1, api.KindBall, 4, math.MaxInt, -1},
		{0, api.KindWall, 7, -1, -1}, {0, api.KindWall, 7, 7, -1}, {0, api.KindWall, 7, math.MaxInt, -1},
		{math.MinInt, api.KindWall, 7, math.MaxInt, -1}, {math.MaxInt, api.KindWall, 7, math.MinInt, -1}, {math.MinInt, api.KindBall, math.MaxInt, 0, -1},
		{math.MinInt, api.KindWall, 7, math.MinInt, 1007}, {math.MaxInt, api.KindPost, 9, math.MaxInt, 3009}, {2, 0, math.MaxInt, 2, math.MaxInt}, {2, 0, math.MinInt, 2, math.MinInt}, {2, -3, 5, 2, -2995},
		{2, 9, 0, 2, 9000}, {4, api.KindBall, 4, 4, 5004},
	} {
		expect(t, contact.Key(api.Contact{Ball: c.ball, Kind: c.kind, Index: c.index, At: moment(1, 1)}, c.of), c.want, "Key of", c)
		expect(t, contact.Key(api.Contact{Ball: c.ball, Kind: c.kind, Index: c.index}, c.of), c.want, "Key of", c, "without a time")
	}
}

// P14.6: the obstacles of a ball have different keys.
func TestKeysDiffer(t *testing.T) {
	keys := map[int]bool{}
	for _, o := range []struct{ kind, n int }{{api.KindWall, api.MaxWalls}, {api.KindArc, api.MaxArcs}, {api.KindPost, api.MaxPosts}, {api.KindFlipper, api.MaxFlippers}} {
		for i := range o.n {
			keys[contact.Key(api.Contact{Ball: 2, Kind: o.kind, Index: i}, 2)] = true
		}
	}
	for other := range api.MaxBalls {
		if other != 2 {
			keys[contact.Key(api.Contact{Ball: min(2, other), Kind: api.KindBall, Index: max(2, other)}, 2)] = true
		}
	}
	expect(t, len(keys), api.MaxWalls+api.MaxArcs+api.MaxPosts+api.MaxFlippers+api.MaxBalls-1, "the number of keys")
	expect(t, keys[-1], false, "a key of -1")
}
