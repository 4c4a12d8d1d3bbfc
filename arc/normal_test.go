package arc_test

import (
	"math"
	"math/rand/v2"
	"testing"

	"pinball/api"
	"pinball/arc"
)

// small is the greatest absolute value of a component of a small vector.
const small = 1 << 30

// expectNormal checks Normal at q, turned and mirrored too.
func expectNormal(t *testing.T, a api.Arc, q, want api.Vec) {
	t.Helper()
	for _, c := range changes() {
		b, p := c.arc(a), c.of(q)
		expect(t, arc.Normal(p, b), c.of(want), "Normal of", p, b)
	}
}

// quarter is the chapter's arc.
func quarter() api.Arc {
	return bow(vec(0, 0), vec(500, 0), vec(0, 500))
}

// P12.3: in the sector of a quarter, inside the circle, outside of it and exactly on it.
func TestNormalInSector(t *testing.T) {
	for _, c := range []api.Vec{{}, {X: 6, Y: -11}, {X: coord - 500, Y: -coord}} {
		a := around(c, vec(500, 0), vec(0, 500))
		for _, o := range []struct{ x, y, nx, ny int }{
			{256 * 400, 256 * 400, 256 * 400, 256 * 400}, {256 * 100, 256 * 100, -256 * 100, -256 * 100}, // the chapter's
			{256 * 300, 256 * 400, 0, 0}, {256*300 + 1, 256 * 400, 256*300 + 1, 256 * 400}, {256*300 - 1, 256 * 400, 1 - 256*300, -256 * 400}, {256 * 300, 256*400 + 1, 256 * 300, 256*400 + 1}, {256 * 300, 256*400 - 1, -256 * 300, 1 - 256*400},
			{256 * 140, 256 * 480, 0, 0}, {256 * 480, 256 * 140, 0, 0}, {35840, 122881, 35840, 122881}, {35840, 122879, -35840, -122879}, {1, 1, -1, -1}, {7, 2, -7, -2}, {1, 127999, -1, -127999}, {1, 128000, 1, 128000}, {128000, 1, 128000, 1}, {127999, 1, -127999, -1},
			{1 << 21, 1 << 21, 1 << 21, 1 << 21}, {1<<21 + 1, 3, 1 << 20, 1}, {5, 1<<22 + 2, 1, 1 << 20},
		} {
			expectNormal(t, a, plus(times(256, c), vec(o.x, o.y)), vec(o.nx, o.ny))
		}
	}
}

// P12.3: directions that are halved, away from C and toward it, with odd components.
func TestLongNormals(t *testing.T) {
	great := around(vec(0, 0), vec(size, 0), vec(0, size)) // a radius of 2^26 in 256ths
	for _, o := range []struct{ x, y, nx, ny int }{
		{1<<22 + 3, 1<<21 + 7, -1 << 20, -1<<19 - 1}, {1<<21 + 1, 1, -1 << 20, 0}, {1<<21 - 1, 1 << 21, 1 - 1<<21, -1 << 21}, {1<<26 - 1, 7, 1 - 1<<21, 0}, {3 << 23, 1 << 25, -3 << 19, -1 << 21},
		{1<<26 - 1, 1 << 14, 1<<21 - 1, 1 << 9}, {1 << 26, 1, 1 << 21, 0}, {1 << 26, 1 << 26, 1 << 21, 1 << 21}, {3 << 24, 1 << 26, 3 << 19, 1 << 21}, {1<<29 - 1, 1 << 29, 1<<21 - 1, 1 << 21}, {1 << 29, 1 << 20, 1 << 21, 1 << 12},
	} {
		expectNormal(t, great, vec(o.x, o.y), vec(o.nx, o.ny))
	}
	circle := around(vec(0, 0), vec(262140, 0), vec(0, 262140))
	expectNormal(t, circle, vec(256*157284, 256*209712), vec(0, 0))
	expectNormal(t, circle, vec(256*157284+1, 256*209712), vec(157284*8, 209712*8))
	expectNormal(t, circle, vec(256*157284-1, 256*209712), vec(1-157284*8, -209712*8))
}

// P12.3: at both edges of the sector, and outside of it nearer to S, nearer to E and equally near to both.
func TestNormalOutsideSector(t *testing.T) {
	for _, c := range []api.Vec{{}, {X: -9, Y: 4}} {
		for _, o := range []struct{ x, y, nx, ny int }{
			{1000, 0, -127000, 0}, {128000, 0, 0, 0}, {128001, 0, 1, 0}, {127999, 0, -1, 0}, {1, 0, -127999, 0}, {0, 1000, 0, -127000}, {0, 128000, 0, 0}, {0, 128001, 0, 1}, {0, 1, 0, -127999}, // on the edges
			{0, 0, 0, 0}, {-1, -1, 0, 0}, {-1000, -1000, 0, 0}, {-128000, -128000, 0, 0}, {-1 << 28, -1 << 28, 0, 0}, // equally near
			{-1, 0, -1, -128000}, {0, -1, -128000, -1}, {-1, -2, -128001, -2}, {-2, -1, -2, -128001}, {-100000, -100001, -228000, -100001}, {-100001, -100000, -100001, -228000}, // on the far side
			{128000, -1, 0, -1}, {128001, -2, 1, -2}, {127990, -30, -10, -30}, {-5, 128000, -5, 0}, {-7, 128009, -7, 9}, {-7, 127000, -7, -1000}, // in front of the ends
			{-1 << 28, 1 << 22, -1 << 21, 1<<15 - 1000}, {128000 + 1<<27, -1<<27 - 64, 1 << 20, -1 << 20},
		} {
			expectNormal(t, around(c, vec(500, 0), vec(0, 500)), plus(times(256, c), vec(o.x, o.y)), vec(o.nx, o.ny))
		}
	}
	wide := around(vec(3, -7), vec(5, 0), vec(-4, 3)) // (1, 3) is in its middle
	c := vec(256*3, -256*7)
	expectNormal(t, wide, plus(c, vec(-1, -3)), vec(0, 0))
	expectNormal(t, wide, plus(c, vec(0, -3)), vec(-1280, -3))
	expectNormal(t, wide, plus(c, vec(-2, -3)), vec(1022, -771))
	expectNormal(t, wide, plus(c, vec(-1, 1)), vec(1, -1))
	expectNormal(t, wide, plus(c, vec(-5, 0)), vec(1019, -768))
}

// P12.3: far away, where Sector is false, and where vectors are not small any more.
func TestNormalFarAway(t *testing.T) {
	a := quarter()
	for _, o := range []struct{ x, y, nx, ny int }{
		{fine, fine, 1 << 21, 1 << 21}, {fine + 1, fine, 1<<21 - 500, 1 << 21}, {fine, fine + 1, 1 << 21, 1<<21 - 500}, {fine + 1, fine + 1, 0, 0}, {-fine, fine, -1 << 21, 1<<21 - 500},
		{small, 0, 1<<21 - 250, 0}, {small, small, 0, 0}, {small, small - 1, 1<<21 - 250, 1<<21 - 1}, {-small, 5, 0, 0}, {0, -small, 0, 0}, {-small, -small, 0, 0}, {128000 - small, 5, -1<<21 + 250, -249}, {128000 - small, small, -1<<21 + 250, 1<<21 - 250},
	} {
		expectNormal(t, a, vec(o.x, o.y), vec(o.nx, o.ny))
	}
	for _, p := range out(small) {
		for _, b := range arcs() {
			expect(t, arc.Normal(p, b), api.Vec{}, "Normal of", p, b)
		}
	}
	// Without a difference that is small, it is as if q were at the end that it is far from.
	b := around(vec(-10, 0), vec(500, 0), vec(0, 500))
	expectNormal(t, b, vec(small, 0), vec(0, 0))
	expectNormal(t, b, vec(small-2560, 0), vec(1<<21-250, 0))
	expectNormal(t, b, vec(small-2559, 0), vec(0, 0))
	expectNormal(t, around(vec(-510, 0), vec(500, 0), vec(0, 500)), vec(small, 0), vec(0, 0)) // far from both
	expectNormal(t, a, vec(math.MinInt, math.MinInt), vec(0, 0))
}

// halved is d halved until both components are short.
func halved(d api.Vec) api.Vec {
	for max(d.X, -d.X, d.Y, -d.Y) > 1<<21 {
		d = vec(d.X/2, d.Y/2)
	}
	return d
}

// normal is the direction in which a permitted arc pushes a ball at q / 256, for a q far within the small ones.
func normal(q api.Vec, a api.Arc) api.Vec {
	squared := func(d api.Vec) int { return d.X*d.X + d.Y*d.Y }
	d, s, e := minus(q, times(256, a.C)), minus(q, times(256, a.S)), minus(q, times(256, a.E))
	if max(q.X, -q.X, q.Y, -q.Y) <= fine && faces(a, whole(d.X), whole(d.Y)) {
		switch circle := squared(minus(a.S, a.C)) << 16; {
		case squared(d) > circle:
			return halved(d)
		case squared(d) < circle:
			return halved(times(-1, d))
		}
		return vec(0, 0)
	}
	switch {
	case squared(s) < squared(e):
		return halved(s)
	case squared(s) > squared(e):
		return halved(e)
	}
	return vec(0, 0)
}

// P12.3: random normals.
func TestRandomNormals(t *testing.T) {
	r := rand.New(rand.NewPCG(5, 12))
	for range 3000 {
		for _, n := range spans() {
			a := randomArc(r, n)
			q := randomPlace(r, a, n)
			if r.IntN(8) == 0 {
				q = position(r, 1<<29+1<<28)
			}
			expectNormal(t, a, q, normal(q, a))
		}
	}
}
