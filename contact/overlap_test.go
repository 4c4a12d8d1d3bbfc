package contact_test

import (
	"math"
	"math/big"
	"math/rand/v2"
	"testing"

	"pinball/api"
	"pinball/contact"
)

// expectOverlap checks the result of Overlap, for no ball of the table.
func expectOverlap(t *testing.T, x api.Table, s api.State, level int, p api.Vec, want bool, what ...any) {
	t.Helper()
	expect(t, contact.Overlap(x, s, level, p, -1), want, append([]any{"Overlap at", p, "on level", level}, what...)...)
}

// place is a position with what Overlap says of it.
type place struct {
	p    api.Vec
	want bool
}

// expectPlaces checks places on the level of a table with one element, which is 2; on other levels there is nothing.
func expectPlaces(t *testing.T, element any, l []place) {
	t.Helper()
	x := table(0, element)
	for _, c := range l {
		expectOverlap(t, x, state(x), 2, c.p, c.want, "in", element)
		for _, level := range []int{0, 1, 3, 4, -1, math.MinInt, math.MaxInt} {
			expectOverlap(t, x, state(x), level, c.p, false, "in", element)
		}
	}
}

// P14.3: obstacles of each kind, touching and one unit within, each on its level only.
func TestOverlap(t *testing.T) {
	alongX := []place{
		{vec(450, 99), true}, {vec(450, 100), false}, {vec(450, -99), true}, {vec(450, -100), false}, {vec(450, 0), true}, {vec(-99, 0), true}, {vec(-100, 0), false}, {vec(-60, 80), false}, {vec(-60, 79), true}, {vec(-59, -80), true}, {vec(999, 0), true}, {vec(1000, 0), false}, {vec(960, -80), false}, {vec(959, -80), true}, {vec(0, 99), true}, {vec(900, -99), true},
	}
	for _, kind := range []int{api.WallPlain, api.WallTarget, api.WallSling} {
		expectPlaces(t, line(kind, 2, 0, 0, 900, 0), alongX)
		expectPlaces(t, line(kind, 2, 900, 0, 0, 0), alongX)
		expectPlaces(t, line(kind, 2, 0, 0, 300, 400), []place{{vec(70, 260), false}, {vec(71, 260), true}, {vec(230, 140), false}, {vec(229, 140), true}})
	}
	expectPlaces(t, line(api.WallGate, 2, 0, 0, 900, 0), []place{{vec(450, 0), false}, {vec(450, 99), false}, {vec(450, -99), false}, {vec(0, 0), false}})
	expectPlaces(t, bow(2, vec(0, 0), vec(500, 0), vec(0, 500)), []place{
		{vec(360, 480), false}, {vec(359, 480), true}, {vec(240, 320), false}, {vec(241, 320), true}, {vec(300, 400), true}, {vec(0, 0), false}, {vec(-300, -400), false}, {vec(500, -99), true}, {vec(500, -100), false}, {vec(-80, 560), false}, {vec(-79, 560), true}, {vec(599, 0), true}, {vec(600, 0), false}, {vec(401, 0), true}, {vec(400, 0), false},
	})
	expectPlaces(t, post(2, 0, 0, 50), []place{{vec(149, 0), true}, {vec(150, 0), false}, {vec(-90, 120), false}, {vec(-90, 119), true}, {vec(0, 0), true}, {vec(0, -149), true}, {vec(0, -150), false}})
	expectPlaces(t, post(2, 0, 0, 0), []place{{vec(99, 0), true}, {vec(100, 0), false}, {vec(60, -80), false}, {vec(60, -79), true}})
	expectPlaces(t, post(2, 0, 0, api.MaxSize), []place{{vec(api.MaxSize+99, 0), true}, {vec(api.MaxSize+100, 0), false}})
	expectPlaces(t, bat(2, 0, 0, 900), alongX)
	expectPlaces(t, cup(2, 0, 0, 50), []place{{vec(0, 0), false}})
	for _, element := range []any{
		api.Zone{Level: 2, Lo: vec(-100, -100), Hi: vec(100, 100)}, api.Lane{Level: 2, Size: 100}, api.Ramp{From: 2, Size: 100}, api.Drain{Level: 2, Size: 100}, api.Launcher{Level: 2},
	} {
		expectPlaces(t, element, []place{{vec(0, 0), false}, {vec(50, 50), false}})
	}
}

// P14.3: targets that are down are not there.
func TestOverlapOfWallsThatAreAway(t *testing.T) {
	x := table(0, line(api.WallPlain, 0, 0, 0, 900, 0), line(api.WallTarget, 0, 0, 500, 900, 500), line(api.WallTarget, 0, 0, 900, 900, 900), line(api.WallGate, 0, 0, 1300, 900, 1300))
	for _, c := range []struct {
		away []bool
		want [4]bool
	}{
		{[]bool{false, false, false, false}, [4]bool{true, true, true, false}},
		{[]bool{false, true, false, false}, [4]bool{true, false, true, false}},
		{[]bool{false, false, true, true}, [4]bool{true, true, false, false}},
		{[]bool{false, true, true, true}, [4]bool{true, false, false, false}},
	} {
		s := state(x)
		s.Away = c.away
		for i, w := range x.Walls {
			expectOverlap(t, x, s, 0, plus(w.A, vec(400, 10)), c.want[i], "in wall", i, "of", c.away)
		}
	}
}

// P14.3: blades are where their K in s is.
func TestOverlapOfBlades(t *testing.T) {
	x := table(0, bat(0, 0, 0, 500), bat(0, 0, 0, 500), bat(0, 3000, 0, 500), bat(0, 6000, 0, 500))
	x.Flippers[1].Mirror, x.Flippers[2].Mirror = true, true
	s := state(x)
	s.K = []int{128, 0, 256, -77}
	for _, c := range []place{
		{vec(70, 260), false}, {vec(71, 260), true}, {vec(230, 140), false}, {vec(229, 140), true}, {vec(250, 99), false}, // along (3, 4)
		{vec(-250, 99), true}, {vec(-250, 100), false}, // to the left
		{vec(3099, 300), true}, {vec(3100, 300), false}, {vec(3300, 99), false}, {vec(2700, 99), false}, // upward
		{vec(6000, 0), true}, {vec(6300, -300), true}, {vec(6450, 0), false}, {vec(6300, 300), false}, // downward
	} {
		expectOverlap(t, x, s, 0, c.p, c.want)
	}
	s.K = []int{0, 0, 0, 0}
	expectOverlap(t, x, s, 0, vec(71, 260), false, "with another K")
	expectOverlap(t, x, s, 0, vec(250, 99), true, "with another K")
}

// P14.3: other balls of the level that are not in the trough.
func TestOverlapOfBalls(t *testing.T) {
	x := table(4, cup(1, 3000, 0, 50))
	s := state(x, free(1, 0, 0), api.Ball{}, free(0, 5000, 0), caught(0, 1, 3010, 0))
	for _, c := range []struct {
		level, x, y, except int
		want                bool
	}{
		{1, 199, 0, -1, true}, {1, 200, 0, -1, false}, {1, -120, 160, -1, false}, {1, -120, 159, -1, true}, {1, 0, 0, -1, true},
		{1, 199, 0, 1, true}, {1, 199, 0, 2, true}, {1, 199, 0, 3, true}, {1, 199, 0, 4, true}, {1, 199, 0, math.MaxInt, true}, {1, 199, 0, math.MinInt, true},
		{1, 199, 0, 0, false}, {1, 0, 0, 0, false},
		{0, 199, 0, -1, false}, {0, 0, 0, -1, false}, {0, 0, 0, 1, false}, // only the ball in the trough is at (0, 0) on level 0
		{0, 5000, 199, -1, true}, {0, 5000, 200, -1, false}, {0, 5000, 199, 2, false}, {1, 5000, 0, -1, false},
		{1, 3010, 199, -1, true}, {1, 3010, 200, -1, false}, {1, 3010, 199, 3, false}, {1, 3010, 199, 0, true}, {0, 3010, 0, -1, false},
	} {
		expect(t, contact.Overlap(x, s, c.level, vec(c.x, c.y), c.except), c.want, "Overlap at", c)
	}
	s.Balls[1] = free(1, 0, 190)
	expect(t, contact.Overlap(x, s, 1, vec(0, 0), 0), true, "Overlap with one of two")
	expect(t, contact.Overlap(x, s, 1, vec(0, 0), 1), true, "Overlap with the other one")
	expect(t, contact.Overlap(x, s, 1, vec(0, -100), 0), false, "Overlap with none of them")
}

// P14.3: a ball beyond the coordinates of tables is a disc as well, and places far away are in nothing.
func TestOverlapFarAway(t *testing.T) {
	x := table(1, post(0, coord, coord, api.MaxSize), line(api.WallPlain, 0, -coord, -coord, coord, -coord))
	for _, far := range []int{coord, coord + 1, coord + 150, -coord - 170, 1 << 22, 1 << 30, 1<<30 + 5, 1 << 33, -1 << 62} {
		s := state(x, free(3, far, -far))
		for _, d := range []place{{vec(199, 0), true}, {vec(200, 0), false}, {vec(-120, 160), false}, {vec(120, -159), true}, {vec(0, 0), true}} {
			expectOverlap(t, x, s, 3, plus(vec(far, -far), d.p), d.want)
			expectOverlap(t, x, s, 3, vec(-far, far), false)
			expectOverlap(t, x, s, 3, d.p, false)
		}
	}
	for _, n := range []int{1 << 21, 1<<21 + 1, 1 << 32, 1<<32 + coord, math.MaxInt, math.MinInt, math.MinInt + coord, 1 << 62, -1 << 62} {
		for _, p := range []api.Vec{vec(n, n), vec(n, coord), vec(coord, n), vec(-coord, n), vec(n, -coord), vec(0, n), vec(n, 0)} {
			expectOverlap(t, x, state(x, free(0, 0, 0)), 0, p, false)
			expectOverlap(t, x, state(x, free(0, -p.X-1, -p.Y-1)), 0, p, false)
		}
	}
	expectOverlap(t, x, state(x, free(0, math.MinInt, math.MinInt)), 0, vec(math.MaxInt, math.MaxInt), false)
	expectOverlap(t, x, state(x, free(0, math.MaxInt, 0)), 0, vec(math.MinInt, 0), false)
	expectOverlap(t, x, state(x, free(0, math.MaxInt, 7)), 0, vec(math.MaxInt-50, 9), true)
}

// R1: tables and states that are not valid.
func TestOverlapOfOthers(t *testing.T) {
	x := table(1, line(api.WallTarget, 0, 0, 0, 900, 0), bat(0, 0, 3000, 900), post(0, 0, 6000, 50))
	s := state(x, free(0, 0, 9000))
	s.K, s.Away = nil, nil
	expectOverlap(t, x, s, 0, vec(0, 0), true, "without Away")
	expectOverlap(t, x, s, 0, vec(0, 3000), false, "without K")
	s.K, s.Away = []int{0, 5}, []bool{true, true}
	expectOverlap(t, x, s, 0, vec(0, 0), false, "with longer lists")
	expectOverlap(t, x, s, 0, vec(0, 3000), true, "with longer lists")
	y := table(0, bat(0, 0, 0, 900), bat(0, 0, 3000, 900), post(0, 0, 6000, -1))
	s.Balls, s.K = nil, []int{0}
	expectOverlap(t, y, s, 0, vec(0, 0), true, "with a flipper that has a K")
	expectOverlap(t, y, s, 0, vec(0, 3000), false, "with a flipper that has none")
	expectOverlap(t, y, s, 0, vec(98, 6000), true, "with the size -1")
	expectOverlap(t, y, s, 0, vec(99, 6000), false, "with the size -1")
	s.Balls = []api.Ball{free(0, 0, 9000)}
	for _, n := range []int{math.MinInt, math.MinInt + 5, math.MinInt + 50, -1 << 62, -1, 0, math.MaxInt, math.MaxInt - 50, 1 << 62, 1<<62 + 50, 1<<63 - 100} {
		y := tableCopy(x)
		y.Radius, y.Posts[0].Size = n, n
		for _, p := range []api.Vec{{}, vec(0, 3000), vec(0, 6000), vec(0, 9000)} {
			expectOverlap(t, y, s, 0, p, false, "with the radius and size", n)
		}
	}
}

// inside reports whether p is in an obstacle; k are the half-angle tangents of the flippers.
func inside(x api.Table, s api.State, level int, p point, k []*big.Rat) bool {
	in := false
	for i, w := range x.Walls {
		in = in || w.Level == level && w.Kind != api.WallGate && !s.Away[i] && bySegment(p, at(w.A), at(w.B), x.Radius)
	}
	for _, a := range x.Arcs {
		in = in || a.Level == level && byArc(p, a, x.Radius)
	}
	for _, o := range x.Posts {
		in = in || o.Level == level && p.less(at(o.C)).shorter(x.Radius+o.Size)
	}
	for i, f := range x.Flippers {
		in = in || f.Level == level && byBlade(p, f, k[i], x.Radius)
	}
	return in
}

// P14.3: random tables and places, against nearest points in rational numbers.
func TestOverlapOfRandomPlaces(t *testing.T) {
	r := rand.New(rand.NewPCG(2, 14))
	both := [2]int{}
	for range 400 {
		x, s := scenery(r)
		k := make([]*big.Rat, len(s.K))
		for i := range k {
			k[i] = ratio(s.K[i], 1)
		}
		for range 25 {
			level, p, except := r.IntN(2), nearby(r, x, s), r.IntN(len(s.Balls)+1)-1
			want := inside(x, s, level, at(p), k)
			for i, b := range s.Balls {
				want = want || i != except && b.Where != api.InTrough && b.Level == level && at(p).less(at(b.P)).shorter(2*x.Radius)
			}
			expect(t, contact.Overlap(x, s, level, p, except), want, "Overlap of", x, s, level, p, except)
			if want {
				both[0]++
			} else {
				both[1]++
			}
		}
	}
	if min(both[0], both[1]) < 2000 {
		t.Error("only", both, "places inside and outside")
	}
}
