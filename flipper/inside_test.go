package flipper_test

import (
	"math"
	"math/rand/v2"
	"testing"

	"pinball/api"
	"pinball/flipper"
)

// spot is a place as seen from the pivot, a reach, and whether the place is nearer to the blade than that.
type spot struct {
	x, y, reach int
	in          bool
}

// expectSpots checks those of a blade, mirrored in X and in Y too.
func expectSpots(t *testing.T, f api.Flipper, k int, l []spot) {
	t.Helper()
	for _, o := range l {
		for _, c := range changes() {
			g := c.flipper(f)
			p := plus(g.P, c.of(vec(o.x, o.y)))
			expect(t, flipper.Inside(p, g, c.angle(k), o.reach), o.in, "Inside of", p, g, c.angle(k), o.reach)
		}
	}
}

// pivots are positions of flippers.
func pivots() []api.Vec {
	return []api.Vec{{}, {X: 40, Y: -17}, {X: coord, Y: -coord}}
}

// P13.2: just within, exactly at and just beyond the reach of a blade along an axis.
func TestInsideAlongAxis(t *testing.T) {
	for _, p := range pivots() {
		expectSpots(t, bat(p, 500), 0, []spot{
			{250, 99, 100, true}, {250, 100, 100, false}, {250, 101, 100, false}, {250, 100, 101, true}, {250, -99, 100, true}, {250, -100, 100, false}, {1, 99, 100, true}, {1, 100, 100, false}, {499, 99, 100, true}, {499, 100, 100, false}, // beside it
			{0, 99, 100, true}, {0, 100, 100, false}, {0, -100, 100, false}, {500, 99, 100, true}, {500, 100, 100, false}, {500, -100, 100, false}, {501, 99, 100, true}, {501, 100, 100, false}, {-1, 99, 100, true}, {-1, 100, 100, false}, // at its ends
			{599, 0, 100, true}, {600, 0, 100, false}, {560, 80, 100, false}, {559, 80, 100, true}, {560, 79, 100, true}, {560, -80, 100, false}, {560, -79, 100, true}, {580, 60, 100, false}, {580, 60, 101, true}, // in front of its tip
			{-99, 0, 100, true}, {-100, 0, 100, false}, {-60, 80, 100, false}, {-59, 80, 100, true}, {-60, 79, 100, true}, {-60, -80, 100, false}, {-80, -59, 100, true}, {-80, -60, 100, false}, // behind its pivot
			{0, 0, 1, true}, {250, 0, 1, true}, {500, 0, 1, true}, {501, 0, 1, false}, {-1, 0, 1, false}, {250, 1, 1, false}, {250, -1, 1, false}, {250, 1, 2, true}, {501, 0, 2, true}, {-1, 0, 2, true}, {501, 1, 1, false}, {501, 1, 2, true},
		})
		expectSpots(t, bat(p, 500), quarter, []spot{ // upwards
			{99, 250, 100, true}, {100, 250, 100, false}, {-99, 250, 100, true}, {-100, 250, 100, false}, {0, 599, 100, true}, {0, 600, 100, false}, {80, 560, 100, false}, {-80, 559, 100, true}, {0, -99, 100, true}, {0, -100, 100, false}, {60, -80, 100, false}, {60, -79, 100, true}, {250, 0, 249, false}, {250, 0, 251, true},
		})
	}
}

// P13.2: the same for blades in the directions (3, 4) / 5 and (15, 8) / 17.
func TestInsideAslant(t *testing.T) {
	for _, p := range pivots() {
		expectSpots(t, bat(p, 500), 128, []spot{ // its tip is at (300, 400)
			{70, 260, 100, false}, {70, 260, 101, true}, {71, 260, 100, true}, {70, 259, 100, true}, {69, 260, 100, false}, {230, 140, 100, false}, {229, 140, 100, true}, {230, 141, 100, true}, {230, 140, 101, true}, // beside it
			{360, 480, 100, false}, {359, 480, 100, true}, {360, 479, 100, true}, {400, 400, 100, false}, {399, 400, 100, true}, {300, 500, 100, false}, {300, 499, 100, true}, {220, 460, 100, false}, {380, 340, 100, false}, {221, 460, 100, true}, {379, 340, 100, true}, // at its tip
			{-60, -80, 100, false}, {-60, -79, 100, true}, {-100, 0, 100, false}, {-99, 0, 100, true}, {0, -100, 100, false}, {0, -99, 100, true}, {-80, 60, 100, false}, {80, -60, 100, false}, {-79, 60, 100, true}, {80, -59, 100, true}, // at its pivot
			{100, 0, 80, false}, {100, 0, 81, true}, {0, 100, 60, false}, {0, 100, 61, true}, {150, 200, 1, true}, {151, 200, 1, true}, {152, 200, 1, false}, {150, 201, 1, true}, {150, 202, 1, false}, {300, 400, 1, true}, {301, 400, 1, false}, {0, 0, 1, true},
		})
		expectSpots(t, bat(p, 850), 64, []spot{ // its tip is at (750, 400)
			{295, 350, 170, false}, {296, 350, 170, true}, {295, 349, 170, true}, {295, 350, 171, true}, {455, 50, 170, false}, {454, 50, 170, true}, {455, 51, 170, true}, {810, 480, 100, false}, {809, 480, 100, true}, {830, 340, 100, false}, {829, 340, 100, true}, {850, 400, 100, false}, {849, 400, 100, true}, {-60, -80, 100, false},
		})
	}
}

// P13.2: tips at positions that are not whole.
func TestInsideOfShortBlades(t *testing.T) {
	for _, p := range pivots() {
		f := bat(p, 1) // its tip is at (0.99997, 0.0078) for k = 1
		expectSpots(t, f, 0, []spot{{1, 1, 1, false}, {1, -1, 1, false}, {0, 1, 1, false}, {0, -1, 1, false}, {2, 0, 1, false}, {1, 0, 1, true}})
		expectSpots(t, f, 1, []spot{{1, 1, 1, true}, {1, -1, 1, false}, {0, 1, 1, true}, {0, -1, 1, false}, {2, 0, 1, false}, {1, 0, 1, true}, {-1, 0, 1, false}, {0, 0, 1, true}, {2, 0, 2, true}, {3, 0, 2, false}, {1, 2, 2, true}, {1, 2, 1, false}, {1, -2, 2, false}})
		expectSpots(t, f, 106, []spot{{1, 1, 1, true}, {2, 2, 2, true}, {2, 2, 1, false}, {1, 2, 1, false}, {1, 0, 1, true}, {0, 1, 1, true}, {2, 1, 1, false}}) // about an eighth of a turn
		expectSpots(t, bat(p, 2), 106, []spot{{1, 2, 1, true}, {2, 2, 1, true}, {2, 1, 1, true}, {3, 2, 1, false}, {1, 0, 1, true}, {0, 1, 1, true}, {0, 2, 1, false}, {2, 0, 1, false}, {2, 0, 2, true}})
	}
}

// P13.2: reaches of 0, below 0, 1, 2^19 and beyond, at positions that are on the blade or far away.
func TestInsideWithOtherReaches(t *testing.T) {
	for _, k := range []int{0, 64, -200, quarter} {
		f := bat(vec(70, -20), 500)
		tip := heading(f, ratio(k, quarter)).scaled(ratio(500, 1)).cut()
		for _, d := range []api.Vec{{}, tip, {X: tip.X / 2, Y: tip.Y / 2}, {X: -3, Y: -4}} {
			for _, reach := range append(beyond(far), 0, -1, -2, -far, -100) {
				expectSpots(t, f, k, []spot{{d.X, d.Y, reach, false}})
			}
			expectSpots(t, f, k, []spot{{d.X, d.Y, far, true}, {d.X, d.Y, far - 1, true}, {d.X, d.Y, 6, true}})
		}
	}
	for _, p := range []api.Vec{{}, {X: coord, Y: coord}} { // its mirror images are inside of the range of positions as well
		expectSpots(t, bat(p, size), 0, []spot{
			{size + far - 1, 0, far, true}, {size + far, 0, far, false}, {size, far - 1, far, true}, {size, far, far, false}, {1000, 1 - far, far, true}, {1000, -far, far, false}, {1 - far, 0, far, true}, {-far, 0, far, false},
			{size + far - 1, 0, far - 1, false}, {size + far - 1, 0, far + 1, false}, {1, 0, far + 1, false}, {far, 1, 1 << 18, false},
		})
	}
}

// P13.2: the ends of the range of positions and beyond them.
func TestInsideAtItsEnds(t *testing.T) {
	for _, p := range append(out(field), vec(field, field), vec(-field, field), vec(0, field), vec(-field, -field), vec(field, 0), vec(-field, 0)) {
		for _, pivot := range []api.Vec{{}, {X: coord, Y: coord}, {X: -coord}} {
			for _, k := range []int{0, 128, -quarter} {
				for _, reach := range []int{1, far} {
					f := bat(pivot, size)
					expect(t, flipper.Inside(p, f, k, reach), false, "Inside of", p, f, k, reach)
				}
			}
		}
	}
	for _, x := range []int{math.MinInt, math.MaxInt, 0, -coord} {
		expect(t, flipper.Inside(vec(x, math.MinInt), bat(vec(0, 0), size), 0, far), false, "Inside of", x)
		expect(t, flipper.Inside(vec(math.MinInt, x), bat(vec(0, 0), size), 0, far), false, "Inside of", x)
	}
}

// P13.2: all positions around small blades, compared with distances in rational numbers.
func TestInsideAround(t *testing.T) {
	for _, k := range []int{0, 1, -1, 64, 106, 128, -128, 192, -255, quarter} {
		for _, length := range []int{1, 5, 6} {
			for _, f := range []api.Flipper{bat(vec(2, -1), length), changes()[1].flipper(bat(vec(1, 1), length))} {
				for x := -12; x <= 12; x++ {
					for y := -11; y <= 11; y++ {
						for reach := 1; reach <= 5; reach++ {
							p := vec(x, y)
							expect(t, flipper.Inside(p, f, k, reach), includes(f, ratio(k, quarter), at(p, 1), reach), "Inside of", p, f, k, reach)
						}
					}
				}
			}
		}
	}
}

// P13.2: random flippers and positions, compared with distances in rational numbers.
func TestInsideOfRandomFlippers(t *testing.T) {
	r := rand.New(rand.NewPCG(1, 13))
	inside := 0
	for range 4000 {
		for _, n := range spans() {
			x := draw(r, n)
			u := ratio(x.from, quarter)
			p := x.near(r, u)
			if r.IntN(8) == 0 {
				p = anywhere(r, field)
			}
			want := includes(x.f, u, at(p, 1), x.reach)
			if want {
				inside++
			}
			expect(t, flipper.Inside(p, x.f, x.from, x.reach), want, "Inside of", p, x.f, x.from, x.reach)
		}
	}
	if inside < 4000 || inside > 16000 {
		t.Error(inside, "positions are inside")
	}
}
