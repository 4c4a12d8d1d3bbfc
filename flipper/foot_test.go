package flipper_test

import (
	"math"
	"math/rand/v2"
	"testing"

	"pinball/api"
	"pinball/flipper"
)

// footing is a place in 256ths as seen from the pivot, and the foot that belongs to it.
type footing struct{ x, y, footX, footY int }

// expectFeet checks Foot and Normal of a blade at a sixteenth, mirrored in X and in Y too.
func expectFeet(t *testing.T, f api.Flipper, from, to, j int, l []footing) {
	t.Helper()
	for _, o := range l {
		for _, c := range changes() {
			g := c.flipper(f)
			seen, foot := c.of(vec(o.x, o.y)), c.of(vec(o.footX, o.footY))
			q := plus(times(256, g.P), seen)
			expect(t, flipper.Foot(q, g, c.angle(from), c.angle(to), j), foot, "Foot of", q, g, c.angle(from), c.angle(to), j)
			expect(t, flipper.Normal(q, g, c.angle(from), c.angle(to), j), halved(minus(seen, foot)), "Normal of", q, g, c.angle(from), c.angle(to), j)
		}
	}
}

// halved is d halved until both components are short.
func halved(d api.Vec) api.Vec {
	for max(d.X, -d.X, d.Y, -d.Y) > 1<<21 {
		d = vec(d.X/2, d.Y/2)
	}
	return d
}

// P13.3: feet at the pivot, at the tip and between them, of blades in the direction of the axes.
func TestFootAlongAxis(t *testing.T) {
	for _, p := range pivots() {
		for _, j := range []int{0, 7, 16} {
			expectFeet(t, bat(p, 500), 0, 0, j, []footing{ // 128000 long
				{1000, 777, 1000, 0}, {1, -5, 1, 0}, {127999, 3, 127999, 0}, {128000, 3, 128000, 0}, {128001, 3, 128000, 0}, {200000, -99999, 128000, 0}, {1 << 28, 1 << 28, 128000, 0},
				{0, 0, 0, 0}, {0, 500, 0, 0}, {0, -500, 0, 0}, {-1, 500, 0, 0}, {-128000, 7, 0, 0}, {-1 << 28, -1 << 28, 0, 0},
			})
			expectFeet(t, bat(p, 500), quarter, quarter, j, []footing{{777, 1000, 0, 1000}, {-3, 127999, 0, 127999}, {-3, 128000, 0, 128000}, {5, 128001, 0, 128000}, {5, 0, 0, 0}, {5, -1, 0, 0}})
		}
	}
}

// P13.3: the same for blades in the direction (3, 4) / 5 and others, truncated toward 0.
func TestFootAslant(t *testing.T) {
	for _, p := range pivots() {
		expectFeet(t, bat(p, 500), 128, 128, 9, []footing{ // (0.36, 0.48) or (0.48, 0.64) for a step in X or in Y
			{1000, 0, 360, 480}, {1001, 0, 360, 480}, {1002, 0, 360, 480}, {1003, 0, 361, 481}, {1, 0, 0, 0}, {2, 0, 0, 0}, {3, 0, 1, 1}, {0, 1, 0, 0}, {0, 2, 0, 1}, {0, 3, 1, 1}, {1, 1, 0, 1}, {-3, 4, 0, 1}, {0, 1000, 480, 640},
			{-4, 3, 0, 0}, {-400, 300, 0, 0}, {-400, 301, 0, 0}, {-400, 302, 0, 1}, {-401, 300, 0, 0}, {4, -3, 0, 0}, {4, -2, 0, 0}, {-3, -4, 0, 0}, // at right angles: s is 0
			{76800, 102400, 76800, 102400}, {76799, 102400, 76799, 102399}, {76801, 102400, 76800, 102400}, {76804, 102397, 76800, 102400}, {76796, 102403, 76800, 102400}, {76796, 102402, 76799, 102399}, {1 << 27, 1 << 27, 76800, 102400}, // at the tip
		})
		expectFeet(t, bat(p, 1), 128, 128, 0, []footing{{1000, 1000, 153, 204}, {153, 205, 153, 204}, {155, 204, 153, 204}, {10, 10, 8, 11}}) // the tip is at (153.6, 204.8)
		expectFeet(t, bat(p, 1), 1, 1, 16, []footing{{1000, 0, 255, 1}, {256, 0, 255, 1}, {257, 0, 255, 1}, {255, 0, 254, 1}, {0, 5, 0, 0}})  // at (255.992, 1.99997)
		expectFeet(t, bat(p, 850), 64, 64, 5, []footing{{289, 0, 225, 120}, {288, 0, 224, 119}, {0, 289, 120, 64}, {0, 288, 119, 63}, {-8, 15, 0, 0}, {-8, 16, 0, 0}, {-7, 16, 1, 0}, {-6, 17, 2, 1}, {1 << 26, 0, 192000, 102400}})
	}
}

// P13.3: blades that move: at the sixteenths of a quarter of a turn.
func TestFootOfMovingBlades(t *testing.T) {
	for _, p := range pivots() {
		f := bat(p, 3000)
		expectFeet(t, f, 0, quarter, 0, []footing{{1000, 77, 1000, 0}})
		expectFeet(t, f, 0, quarter, 1, []footing{{257000, 0, 253015, 31750}, {66049, 0, 65025, 8160}, {0, 66049, 8160, 1024}, {-32, 255, 0, 0}, {-32, 256, 0, 0}, {-31, 263, 1, 0}}) // (255, 32) / 257
		expectFeet(t, f, 0, quarter, 4, []footing{{289, 0, 225, 120}, {0, 289, 120, 64}})
		expectFeet(t, f, 0, quarter, 8, []footing{{1000, 0, 360, 480}, {0, 1000, 480, 640}})
		expectFeet(t, f, 0, quarter, 12, []footing{{625, 0, 49, 168}, {0, 625, 168, 576}})
		expectFeet(t, f, 0, quarter, 16, []footing{{77, 1000, 0, 1000}})
		expectFeet(t, f, quarter, 0, 0, []footing{{77, 1000, 0, 1000}})
		expectFeet(t, f, quarter, 0, 4, []footing{{625, 0, 49, 168}, {0, 625, 168, 576}})
		expectFeet(t, f, quarter, 0, 8, []footing{{1000, 0, 360, 480}})
		expectFeet(t, f, quarter, 0, 16, []footing{{1000, 77, 1000, 0}})
		expectFeet(t, f, -quarter, quarter, 8, []footing{{1000, 77, 1000, 0}})
		expectFeet(t, f, -quarter, quarter, 12, []footing{{1000, 0, 360, 480}})
		expectFeet(t, f, 2, 3, 8, []footing{{1 << 19, 1 << 12, 524168, 10238}}) // the tangent is 2.5 / 256
	}
}

// P13.3: j from 0 to 16 and beyond it.
func TestOtherSixteenths(t *testing.T) {
	f := bat(vec(20, -30), 500)
	for _, q := range []api.Vec{{X: 90000, Y: 60000}, {X: -7, Y: 30000}, {X: 5120, Y: -2000}} {
		for _, move := range [][2]int{{0, 0}, {0, 16}, {60, -60}} {
			for j := 0; j <= 16; j++ {
				expect(t, flipper.Foot(q, f, move[0], move[1], j), foot(q, f, move[0], move[1], j), "Foot of", q, move, j)
			}
			for _, j := range append(beyond(16), -1, -16, 17) {
				expect(t, flipper.Foot(q, f, move[0], move[1], j), vec(0, 0), "Foot of", q, move, j)
				expect(t, flipper.Normal(q, f, move[0], move[1], j), vec(0, 0), "Normal of", q, move, j)
			}
		}
	}
}

// P13.3: components of q at 2^29 and beyond, also with the greatest flippers.
func TestFarPlaces(t *testing.T) {
	f := bat(vec(0, 0), 500)
	expectFeet(t, f, 0, 0, 0, []footing{{fine, fine, 128000, 0}, {fine, -7, 128000, 0}, {-fine, fine, 0, 0}, {0, fine, 0, 0}, {5, -fine, 5, 0}})
	for _, p := range []api.Vec{{X: coord, Y: coord}, {X: coord, Y: -coord}, {}} {
		for _, k := range []int{0, 128, quarter, -quarter, -77} {
			for _, o := range []api.Vec{{X: fine, Y: fine}, {X: -fine, Y: fine}, {X: fine, Y: 1}, {X: -fine, Y: -fine}, {X: 3, Y: -fine}} {
				g := bat(p, size)
				want := foot(o, g, k, -k, 5)
				expect(t, flipper.Foot(o, g, k, -k, 5), want, "Foot of", o, g, k)
				expect(t, flipper.Normal(o, g, k, -k, 5), halved(minus(minus(o, times(256, p)), want)), "Normal of", o, g, k)
			}
		}
	}
	for _, q := range out(fine) {
		for _, p := range []api.Vec{{}, {X: coord, Y: -coord}} {
			for _, move := range [][2]int{{0, 0}, {-5, 100}} {
				expect(t, flipper.Foot(q, bat(p, size), move[0], move[1], 3), vec(0, 0), "Foot of", q, p, move)
				expect(t, flipper.Normal(q, bat(p, size), move[0], move[1], 3), vec(0, 0), "Normal of", q, p, move)
			}
		}
	}
	expect(t, flipper.Foot(vec(math.MinInt, math.MaxInt), f, 0, 0, math.MinInt), vec(0, 0), "Foot")
}

// P13.3: long normals are halved, truncated toward 0.
func TestLongNormals(t *testing.T) {
	f := bat(vec(0, 0), 1<<13) // 2^21 long
	for _, o := range []struct{ x, y, nx, ny int }{
		{1 << 20, 1 << 21, 0, 1 << 21}, {1 << 20, 1<<21 + 1, 0, 1 << 20}, {-3, 1<<22 + 3, 0, 1 << 20}, {-1<<21 - 1, 7, -1 << 20, 3}, {-1 << 21, 7, -1 << 21, 7}, {5<<20 + 3, -9, 3<<19 + 1, -4}, {1<<29 - 1, 1 << 29, (1<<29 - 1 - 1<<21) >> 8, 1 << 21},
	} {
		for _, c := range changes() {
			expect(t, flipper.Normal(c.of(vec(o.x, o.y)), c.flipper(f), 0, 0, 2), c.of(vec(o.nx, o.ny)), "Normal of", o, c)
		}
	}
}

// foot is 256 times the nearest point of a blade, as seen from its pivot, truncated toward 0.
func foot(q api.Vec, f api.Flipper, from, to, j int) api.Vec {
	p := at(minus(q, times(256, f.P)), 256)
	return nearest(f, tangent(from, to, ratio(j, 16)), p).scaled(ratio(256, 1)).cut()
}

// P13.3: random flippers and places, compared with nearest points in rational numbers.
func TestRandomFeet(t *testing.T) {
	r := rand.New(rand.NewPCG(3, 13))
	for range 2500 {
		for _, n := range spans() {
			x := draw(r, n)
			j := r.IntN(17)
			q := x.fineNear(r, j)
			if r.IntN(4) == 0 || max(q.X, -q.X, q.Y, -q.Y) > fine {
				q = anywhere(r, fine)
			}
			want := foot(q, x.f, x.from, x.to, j)
			expect(t, flipper.Foot(q, x.f, x.from, x.to, j), want, "Foot of", q, x, j)
			expect(t, flipper.Normal(q, x.f, x.from, x.to, j), halved(minus(minus(q, times(256, x.f.P)), want)), "Normal of", q, x, j)
		}
	}
}
