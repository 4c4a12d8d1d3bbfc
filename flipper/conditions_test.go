package flipper_test

import (
	"math/big"
	"math/rand/v2"
	"slices"
	"testing"

	"pinball/api"
	"pinball/entry"
	"pinball/flipper"
	"pinball/integer"
	"pinball/root"
)

// expectLimits checks that l has conjunctions, and that they are within the limits.
func expectLimits(t *testing.T, l [][]api.Poly, what ...any) {
	t.Helper()
	if len(l) < 1 || len(l) > 8 {
		t.Error(append(what, "has", len(l), "conjunctions")...)
	}
	for _, c := range l {
		for _, p := range c {
			if len(p)-1 > 6 {
				t.Error(append(what, "has the degree", len(p)-1)...)
			}
			for _, a := range p {
				if number(a).BitLen() > 200 {
					t.Error(append(what, "has a coefficient of", number(a).BitLen(), "bits")...)
				}
			}
		}
	}
	if len(slices.Concat(l...)) > 8*16 {
		t.Error(append(what, "has too many polynomials")...)
	}
}

// moments are all sixteenths of the tick, and some times between them.
func moments() []*big.Rat {
	var l []*big.Rat
	for j := 0; j <= 16; j++ {
		l = append(l, ratio(j, 16))
	}
	for _, n := range []int{1, 2, 3, 50, 51, 52, 99, 100, 102} {
		l = append(l, ratio(n, 103))
	}
	return l
}

// expectConditions checks Conditions against the position at all times of l.
func expectConditions(t *testing.T, m api.Motion, x lot, l []*big.Rat) {
	t.Helper()
	found := flipper.Conditions(m, x.f, x.from, x.to, x.reach)
	expectLimits(t, found, "Conditions of", m, x)
	for _, when := range l {
		want := includes(x.f, tangent(x.from, x.to, when), position(m, when), x.reach)
		expect(t, holds(found, when), want, "Conditions of", m, x, "at", when)
	}
}

// between is an open interval of time, in 32ths of the tick.
type between struct{ from, to int }

// always is all of the tick.
var always = between{-1, 33}

// passage is a Motion, with the times of the tick at which it is too near to a certain blade.
type passage struct {
	m     api.Motion
	times []between
}

// expectPassages checks those of one blade, mirrored in X and in Y too.
func expectPassages(t *testing.T, x lot, l []passage) {
	t.Helper()
	for i, o := range l {
		for _, c := range changes() {
			found := flipper.Conditions(c.motion(o.m), c.flipper(x.f), c.angle(x.from), c.angle(x.to), x.reach)
			expectLimits(t, found, "passage", i)
			for n := range 33 {
				in := slices.ContainsFunc(o.times, func(w between) bool { return w.from < n && n < w.to })
				expect(t, holds(found, ratio(n, 32)), in, "passage", i, "with", c, "at", n)
			}
		}
	}
}

// along are flights past a blade from (0, 0) to (500, 0), with a reach of 100.
func along() []passage {
	return []passage{
		{fly(250, 150, 0, -100, 0, 0), []between{{16, 80}}}, // from above
		{fly(250, -150, 0, 200, 0, 0), []between{{8, 40}}},  // from below
		{fly(250, 150, 0, -50, 0, 0), nil},                  // touches at the end of the tick
		{fly(250, 150, 0, -400, 0, 0), []between{{4, 20}}},  // through it
		{fly(700, 0, -200, 0, 0, 0), []between{{16, 99}}},   // to the tip
		{fly(620, 160, -120, -160, 0, 0), []between{{16, 52}}},
		{fly(640, 80, -160, 0, 0, 0), []between{{16, 99}}},
		{fly(640, -80, -160, 0, 0, 0), []between{{16, 99}}},
		{fly(-200, 0, 200, 0, 0, 0), []between{{16, 99}}}, // to the pivot
		{fly(-120, -160, 120, 160, 0, 0), []between{{16, 52}}},
		{fly(-140, 80, 160, 0, 0, 0), []between{{16, 99}}},
		{fly(100, 100, 200, 0, 0, 0), nil}, // touches all the time
		{fly(-300, 100, 700, 0, 0, 0), nil},
		{fly(100, 95, 200, 0, 0, 0), []between{always}},
		{fly(600, -100, 0, 200, 0, 0), nil}, // touches in front of the tip
		{fly(-100, -100, 0, 200, 0, 0), nil},
		{fly(250, 140, 0, -160, 0, 160), nil},                          // touches at the vertex of a parabola
		{fly(250, 130, 0, -160, 0, 160), []between{{8, 24}}},           // 10 below that
		{fly(250, 60, 0, 160, 0, -160), []between{{-1, 16}, {16, 33}}}, // touches from within
		{fly(250, 70, 0, 160, 0, -160), []between{{-1, 8}, {24, 33}}},
		{fly(250, -130, 0, 160, 0, -160), []between{{8, 24}}}, // from below
		{fly(630, 0, -160, 0, 160, 0), []between{{8, 24}}},    // to the tip and back
		{fly(-130, 0, 160, 0, -160, 0), []between{{8, 24}}},   // to the pivot and back
		{fly(250, 100, 0, -50, 0, 0), []between{{0, 99}}},     // enters at the beginning
		{fly(250, 100, 0, 50, 0, 0), nil},
		{fly(250, 75, 0, 50, 0, 0), []between{{-1, 16}}}, // leaves
		{fly(575, 0, 50, 0, 0, 0), []between{{-1, 16}}},
		{fly(-75, 0, -50, 0, 0, 0), []between{{-1, 16}}},
		{fly(250, 95, 0, 0, 0, 0), []between{always}}, // does not move
		{fly(250, 100, 0, 0, 0, 0), nil},
		{fly(0, 0, 0, 0, 0, 0), []between{always}},
		{fly(500, 0, 0, 0, 0, 0), []between{always}},
		{fly(560, 80, 0, 0, 0, 0), nil},
		{fly(555, 80, 0, 0, 0, 0), []between{always}},
		{fly(-60, -80, 0, 0, 0, 0), nil},
		{fly(-60, -75, 0, 0, 0, 0), []between{always}},
		{fly(5000, 300, 20, 30, 0, -5), nil}, // stays outside
		{fly(-250, 95, 0, -30, 0, 0), nil},
		{fly(750, 95, 0, -30, 0, 0), nil},
	}
}

// P13.2: written flights past blades at rest, in the direction of the axes, of (3, 4), (15, 8) and (7, 24).
func TestPassagesOfBladesAtRest(t *testing.T) {
	for _, o := range []struct{ k, scale, x, y, n int }{{0, 1, 1, 0, 1}, {quarter, 1, 0, 1, 1}, {128, 1, 3, 4, 5}, {64, 17, 15, 8, 17}, {192, 5, 7, 24, 25}} {
		turned := func(a api.Vec) api.Vec {
			a = times(o.scale, a)
			return vec((a.X*o.x-a.Y*o.y)/o.n, (a.X*o.y+a.Y*o.x)/o.n)
		}
		for _, p := range []api.Vec{{}, {X: -90, Y: 35}, {X: coord, Y: coord}} {
			l := along()
			for i, a := range l {
				h := a.m.H
				if o.n > 1 && h.X%5+h.Y%5 != 0 {
					t.Fatal("passage", i, "cannot be turned")
				}
				l[i].m = api.Motion{P: plus(p, turned(a.m.P)), V: turned(a.m.V), H: turned(h)}
			}
			expectPassages(t, lot{bat(p, 500*o.scale), o.k, o.k, 100 * o.scale}, l)
		}
	}
}

// P13.2: written flights past blades that rise and fall by a quarter of a turn; at sixteenth 8
// they are in the direction (3, 4) / 5, where (70, 260) and (230, 140) touch them.
func TestPassagesOfMovingBlades(t *testing.T) {
	for _, p := range pivots() {
		past := func(px, py, vx, vy int) api.Motion { return fly(p.X+px, p.Y+py, vx, vy, 0, 0) }
		expectPassages(t, lot{bat(p, 500), 0, quarter, 100}, []passage{
			{past(70, 260, 0, 0), []between{{16, 99}}},
			{past(70, 310, 0, -100), []between{{16, 99}}},
			{past(30, 560, 80, -600), []between{{16, 29}}},
			{past(-60, -80, 0, 0), nil}, // behind the pivot
			{past(-60, -79, 0, 0), []between{always}},
			{past(-101, 590, 0, 0), nil},
			{past(300, 400, 0, 0), []between{{12, 21}}}, // the tip comes through
			{past(360, 480, 0, 0), nil},                 // the tip touches on its way
			{past(250, 100, 0, 0), []between{{0, 13}}},  // touches at the beginning
			{past(100, 250, 0, 0), []between{{13, 32}}},
			{past(250, -99, 0, 0), []between{{-1, 1}}}, // is left at once
			{past(250, -100, 0, 0), nil},
			{past(0, 0, 0, 0), []between{always}},
		})
		expectPassages(t, lot{bat(p, 500), quarter, 0, 100}, []passage{
			{past(230, 140, 0, 0), []between{{16, 30}}},
			{past(70, 260, 0, 0), []between{{-1, 16}}}, // is left
			{past(70, 1260, 0, -2000), []between{{16, 22}}},
			{past(360, 480, 0, 0), nil},
			{past(300, 400, 0, 0), []between{{11, 20}}},
			{past(100, 250, 0, 0), []between{{0, 19}}},
		})
		expectPassages(t, lot{bat(p, 500), 0, 128, 100}, []passage{{past(70, 260, 0, 0), nil}, {past(70, 310, 0, -50), nil}, {past(71, 260, 0, 0), []between{{31, 99}}}}) // touches at the end
		expectPassages(t, lot{bat(p, 500), 128, 0, 100}, []passage{{past(70, 260, 0, 0), nil}, {past(70, 260, 30, -10), nil}, {past(230, 140, 0, 0), []between{{0, 27}}}})
		expectPassages(t, lot{bat(p, 500), 128, quarter, 100}, []passage{{past(70, 260, 0, 0), []between{{0, 99}}}, {past(230, 140, 0, 0), nil}, {past(70, 260, -70, -60), []between{{0, 99}}}})
	}
}

// arrival is a Motion past a blade that moves, with the time n / 2^e of its entry.
type arrival struct {
	length, from, to int
	m                api.Motion
	n, e             int
}

// P13.2: exact times of entry, with a reach of 100.
func TestEntries(t *testing.T) {
	for i, o := range []arrival{
		{500, 0, quarter, fly(70, 260, 0, 0, 0, 0), 1, 1},
		{500, quarter, 0, fly(230, 140, 0, 0, 0, 0), 1, 1},
		{500, 0, quarter, fly(70, 310, 0, -100, 0, 0), 1, 1},
		{500, 0, quarter, fly(60, 284, 16, -40, 8, -16), 1, 1},
		{500, quarter, 0, fly(70, 1260, 0, -2000, 0, 0), 1, 1},
		{850, 0, quarter, fly(810, 480, 0, 0, 0, 0), 1, 2}, // its tip is at (750, 400), (510, 680) and (238, 816) at the quarters
		{850, quarter, 0, fly(830, 340, 0, 0, 0, 0), 3, 2},
		{850, 0, quarter, fly(800, 480, 40, 0, 0, 0), 1, 2},
		{850, 0, quarter, fly(430, 740, 0, 0, 0, 0), 1, 1}, // at (510, 680) + (-80, 60), where the tip comes from behind
		{850, 0, quarter, fly(570, 760, 0, 0, 0, 0), -1, 0},
		{500, 0, quarter, fly(250, 100, 0, 0, 0, 0), 0, 0},
		{500, 0, quarter, fly(-200, 0, 200, 0, 0, 0), 1, 1}, // to the pivot
		{500, 0, 0, fly(250, 150, 0, -400, 0, 0), 1, 3},
		{500, 0, 0, fly(250, 150, 0, -50, 0, 0), -1, 0},
	} {
		for _, c := range changes() {
			l := flipper.Conditions(c.motion(o.m), c.flipper(bat(vec(0, 0), o.length)), c.angle(o.from), c.angle(o.to), 100)
			first, found, e := entry.First(l)
			expect(t, e, api.OK, "the error of First of arrival", i)
			expect(t, found, o.n >= 0, "there is an entry of arrival", i)
			if found && o.n >= 0 {
				order, e := root.CmpDyadic(first, api.Dyadic{N: integer.Of(o.n), E: o.e})
				expect(t, e, api.OK, "the error of CmpDyadic of arrival", i)
				expect(t, order, 0, "the order of the time and the expected one of arrival", i)
			}
		}
	}
}

// P13.2: small blades with all reaches, with balls at many places around them, at rest and moving.
func TestShortFlights(t *testing.T) {
	l := []*big.Rat{ratio(0, 1), ratio(3, 16), ratio(1, 2), ratio(1, 1)}
	for _, move := range [][2]int{{0, 0}, {128, 128}, {64, 192}, {192, 64}, {0, quarter}, {-quarter, quarter}} {
		for x := -8; x <= 8; x += 2 {
			for y := -7; y <= 8; y++ {
				for _, v := range []api.Vec{{}, {X: 16}, {X: -5, Y: 3}} {
					for reach := 1; reach <= 5; reach += 2 {
						expectConditions(t, fly(x, y, v.X, v.Y, 0, 0), lot{bat(vec(1, -1), 5), move[0], move[1], reach}, l)
					}
				}
			}
		}
	}
}

// P13.2: random flippers and Motions, at all sixteenths and at times between them.
func TestRandomConditions(t *testing.T) {
	r := rand.New(rand.NewPCG(2, 13))
	l := moments()
	for range 400 {
		for _, n := range spans() {
			x := draw(r, n)
			expectConditions(t, x.passing(r, n), x, l)
		}
	}
}

// P13.2: the greatest arguments, with all signs, within the limits.
func TestGreatestConditions(t *testing.T) {
	l := moments()
	for k := range 64 {
		sign := func(i int) int { return 1 - k>>i&1*2 }
		m := fly(place*sign(0), place*sign(1), velocity*sign(2), velocity*sign(3), half*sign(4), half*sign(5))
		for i, move := range [][2]int{{-quarter, quarter}, {quarter, -quarter}, {quarter, quarter}, {0, quarter}, {-quarter, 0}} {
			for _, c := range changes() {
				f := c.flipper(bat(vec(coord, coord), size))
				expectConditions(t, m, lot{f, move[0], move[1], far}, l[3*i:3*i+3])
				n := m
				n.P = f.P
				expectConditions(t, n, lot{f, move[0], move[1], 1}, l[:3])
				n.P = plus(f.P, heading(f, ratio(move[0], quarter)).scaled(ratio(size, 1)).cut())
				expectConditions(t, n, lot{f, move[0], move[1], far}, l[3*i:3*i+3])
			}
		}
	}
}

// P13.2: reaches of 0, below 0 and beyond 2^19; those of 1 and 2^19 have conjunctions, even if none ever holds.
func TestConditionsWithOtherReaches(t *testing.T) {
	f := bat(vec(-20, 30), 500)
	for _, move := range moves() {
		for _, m := range []api.Motion{{}, {P: f.P}, {P: f.P, V: vec(1, 2)}, fly(-place, place, 0, 0, 0, 0)} {
			for _, reach := range append(beyond(far), 0, -1, -100, -far) {
				expect(t, len(flipper.Conditions(m, f, move[0], move[1], reach)), 0, "the number of conjunctions of", m, move, reach)
			}
			for _, reach := range []int{1, 2, far - 1, far} {
				expectConditions(t, m, lot{f, move[0], move[1], reach}, []*big.Rat{ratio(0, 1), ratio(1, 2), ratio(1, 1)})
			}
		}
	}
}

// P13.2: Motions that are not valid.
func TestConditionsOfOtherMotions(t *testing.T) {
	for _, m := range wrongs() {
		for _, move := range moves() {
			for _, reach := range []int{1, 100, far, 0} {
				expect(t, len(flipper.Conditions(m, bat(vec(3, 4), 500), move[0], move[1], reach)), 0, "the number of conjunctions of", m, move, reach)
			}
		}
	}
}
