package flipper_test

import (
	"math"
	"math/big"
	"math/rand/v2"
	"testing"

	"pinball/api"
	"pinball/flipper"
)

// drive is a tick of a blade, a foot, and the velocity of the surface there.
type drive struct{ from, to, x, y, vx, vy int }

// P13.4: blades that rise, fall and rest, mirrored in X and in Y too, truncated toward 0.
func TestSurface(t *testing.T) {
	for _, p := range pivots() {
		for _, o := range []drive{ // 9 e / (4 (65536 + from^2)) of the foot turned by a right angle
			{0, 16, 256000, 0, 0, 140}, // the chapter's: 140.6
			{0, -16, 256000, 0, 0, -140}, {0, 16, -256000, 0, 0, -140}, {0, 16, 0, 256000, -140, 0}, {0, -16, 0, 256000, 140, 0}, {0, 16, 0, -256000, 140, 0},
			{0, 0, 256000, 128000, 0, 0}, {50, 50, 256000, -128000, 0, 0}, {quarter, quarter, small, small, 0, 0},
			{0, 1, 29127, 29128, -1, 0}, {0, 1, 29128, 29127, 0, 1}, {0, 1, 29128, 29128, -1, 1}, {0, 1, -29127, 29127, 0, 0}, {0, 1, -29128, -29128, 1, -1}, {0, -1, 29127, -29128, -1, 0}, {0, 1, 58254, -58255, 2, 1}, // 1 at 29127.1
			{quarter, 240, 256000, 0, 0, -70}, {quarter, 0, 256000, 0, 0, -1125}, {0, quarter, 256000, 0, 0, 2250}, {-quarter, quarter, 256000, 0, 0, 2250}, {-quarter, quarter, 256000, 512000, -4500, 2250}, {quarter, -quarter, 256000, 512000, 4500, -2250},
			{128, 144, 256000, 0, 0, 112}, {112, 128, 256000, 0, 0, 118}, {-128, -112, 256000, 0, 0, 112}, {64, 80, 256000, 0, 0, 132}, {1, 65, 9999, 0, 0, 21},
		} {
			for _, c := range changes() {
				f := c.flipper(bat(p, 500))
				got := flipper.Surface(c.of(vec(o.x, o.y)), f, c.angle(o.from), c.angle(o.to))
				expect(t, got, c.of(vec(o.vx, o.vy)), "Surface of", o, c)
			}
		}
	}
}

// P13.4: the greatest small feet, and those that are not small.
func TestSurfaceOfFarFeet(t *testing.T) {
	f := bat(vec(5, 6), 500)
	for _, o := range []drive{
		{0, 16, small, -small, 589824, 589824}, {0, -16, small, small, 589824, -589824}, {-quarter, quarter, small, small, -9437184, 9437184}, {quarter, -quarter, -small, small, 9437184, 9437184}, {0, quarter, small, 0, 0, 9437184}, {0, 1, small - 1, -small, 36864, 36863}, {0, 1, 1 - small, small, -36864, -36863},
	} {
		expect(t, flipper.Surface(vec(o.x, o.y), f, o.from, o.to), vec(o.vx, o.vy), "Surface of", o)
	}
	for _, d := range out(small) {
		for _, move := range [][2]int{{0, 16}, {-quarter, quarter}, {0, 0}, {50, -3}} {
			expect(t, flipper.Surface(d, f, move[0], move[1]), vec(0, 0), "Surface of", d, move)
		}
	}
	for _, x := range []int{math.MinInt, math.MaxInt, 0, -small} {
		expect(t, flipper.Surface(vec(x, math.MinInt), f, 0, 16), vec(0, 0), "Surface of", x)
	}
}

// surface is the velocity of a blade at a foot, 9/8 times: it turns by 2 u' / (1 + u^2) at the tangent u of half its angle.
func surface(foot api.Vec, f api.Flipper, from, to int) api.Vec {
	u := ratio(from, quarter)
	turn := new(big.Rat).Mul(u, u)
	turn.Add(turn, ratio(1, 1)).Inv(turn)
	turn.Mul(turn, ratio(2*(to-from), quarter)).Mul(turn, ratio(9, 8))
	if f.Mirror {
		turn.Neg(turn)
	}
	return at(vec(-foot.Y, foot.X), 256).scaled(turn).cut()
}

// P13.4: random feet, compared with rational numbers.
func TestRandomSurfaces(t *testing.T) {
	r := rand.New(rand.NewPCG(4, 13))
	for range 3000 {
		for _, n := range spans() {
			x := draw(r, n)
			d := anywhere(r, 256*x.f.Length)
			if r.IntN(4) == 0 {
				d = anywhere(r, small)
			}
			expect(t, flipper.Surface(d, x.f, x.from, x.to), surface(d, x.f, x.from, x.to), "Surface of", d, x)
		}
	}
}

// P13.4: at the beginning of the tick, the blade moves with 8/9 of the surface velocity.
func TestSurfaceIsVelocityOfBlade(t *testing.T) {
	r := rand.New(rand.NewPCG(5, 13))
	for range 3000 {
		x := draw(r, spans()[3])
		d := heading(x.f, tangent(x.from, x.to, ratio(0, 1))).scaled(ratio(256*x.f.Length, 1)).cut()
		v := flipper.Surface(d, x.f, x.from, x.to)
		step := ratio(1, 1<<40)
		way := heading(x.f, tangent(x.from, x.to, step)).less(heading(x.f, tangent(x.from, x.to, new(big.Rat).Neg(step)))).scaled(ratio(x.f.Length<<39, 1))
		for _, c := range []struct {
			got  int
			want *big.Rat
		}{{v.X, way.x}, {v.Y, way.y}} {
			want, _ := c.want.Float64()
			if math.Abs(float64(c.got)*8/9-want) > 2 {
				t.Error("Surface of", d, x, "is", v, "and not", want)
			}
		}
	}
}
