package wall_test

import (
	"math/big"
	"math/rand/v2"
	"testing"

	"pinball/api"
	"pinball/wall"
)

// small is the greatest absolute value of a component of a small vector.
const small = 1 << 30

// expectNormal checks CapsuleNormal of s and of its reverse, and DiscNormal too if s
// is a point; turned by right angles and mirrored too.
func expectNormal(t *testing.T, q api.Vec, s segment, want api.Vec) {
	t.Helper()
	for k := range 4 {
		expectOneNormal(t, turned(q, k), segment{turned(s.a, k), turned(s.b, k)}, turned(want, k))
		expectOneNormal(t, turned(mirrored(q), k), segment{turned(mirrored(s.a), k), turned(mirrored(s.b), k)}, turned(mirrored(want), k))
	}
}

// expectOneNormal checks it as it is.
func expectOneNormal(t *testing.T, q api.Vec, s segment, want api.Vec) {
	t.Helper()
	expect(t, wall.CapsuleNormal(q, s.a, s.b), want, "CapsuleNormal of", q, s.a, s.b)
	expect(t, wall.CapsuleNormal(q, s.b, s.a), want, "CapsuleNormal of", q, s.b, s.a)
	if s.a == s.b {
		expect(t, wall.DiscNormal(q, s.a), want, "DiscNormal of", q, s.a)
	}
}

// P11.3: DiscNormal, with and without halving.
func TestDiscNormal(t *testing.T) {
	p := segment{vec(3, -4), vec(3, -4)}
	at := func(x, y int) api.Vec { return vec(256*3+x, y-256*4) }
	for _, o := range []struct{ x, y, nx, ny int }{
		{0, 0, 0, 0}, {1, 0, 1, 0}, {0, -1, 0, -1}, {-7, 12, -7, 12}, {-6, 12, -6, 12}, {768, -1024, 768, -1024},
		{1 << 21, 5, 1 << 21, 5}, {1<<21 + 1, 5, 1 << 20, 2}, {-1<<21 - 1, -5, -1 << 20, -2}, {1<<21 + 2, 1, 1<<20 + 1, 0}, {7, 1<<22 + 1, 3, 1 << 21}, {-7, -1<<22 - 2, -1, -1 << 20},
		{1 << 29, -3 << 27, 1 << 21, -3 << 19}, {1 << 21, 1<<21 + 1, 1 << 20, 1 << 20}, {1<<30 - 768, -1, 1<<21 - 2, 0}, {1<<22 + 3, -1<<23 - 7, 1 << 19, -1 << 20},
	} {
		expectNormal(t, at(o.x, o.y), p, vec(o.nx, o.ny))
	}
	end := segment{vec(coord, -coord), vec(coord, -coord)}
	expectNormal(t, vec(256*coord, -256*coord), end, vec(0, 0))
	expectNormal(t, vec(256*coord+1, 9-256*coord), end, vec(1, 9))
	expectNormal(t, vec(-256*coord, 256*coord), end, vec(-1<<21, 1<<21))
}

// P11.3: CapsuleNormal on both sides of a segment along an axis, on it, and in front of its ends.
func TestCapsuleNormal(t *testing.T) {
	s := segment{vec(0, 0), vec(100, 0)}
	for _, o := range []struct{ x, y, nx, ny int }{
		{12800, 2560, 0, 1}, {12800, 1, 0, 1}, {12800, -1, 0, -1}, {12800, 0, 0, 0}, {12800, -1 << 29, 0, -1}, {12800, 1 << 30, 0, 1},
		{-1, 2560, -1, 2560}, {0, 2560, 0, 2560}, {1, 2560, 0, 1}, {1, 1, 0, 1}, {0, 1, 0, 1}, {0, -5, 0, -5}, {1, -5, 0, -1}, {-1, -5, -1, -5},
		{25599, 2560, 0, 1}, {25600, 2560, 0, 2560}, {25601, 2560, 1, 2560}, {25599, -3, 0, -1}, {25600, -3, 0, -3}, {25601, -3, 1, -3},
		{1, 0, 0, 0}, {25599, 0, 0, 0}, {0, 0, 0, 0}, {25600, 0, 0, 0}, {-1, 0, -1, 0}, {25601, 0, 1, 0}, {-1 << 29, 3, -1 << 21, 0}, {1<<22 + 1 + 25600, 8, 1 << 21, 4},
	} {
		expectNormal(t, vec(o.x, o.y), s, vec(o.nx, o.ny))
	}
}

// P11.3: CapsuleNormal of slanted segments, exactly at both of its limits and next to them.
func TestSlantedCapsuleNormal(t *testing.T) {
	s := segment{vec(-6, 10), vec(24, 50)} // 30 and 40, so (4, -3) is at right angles
	a, b := vec(-6*256, 10*256), vec(24*256, 50*256)
	for _, o := range []struct {
		from   api.Vec
		x, y   int
		nx, ny int
	}{
		{a, 4, -3, 4, -3}, {a, 5, -3, 4, -3}, {a, 3, -3, 3, -3}, {a, 4, -4, 4, -4}, {a, 4, -2, 4, -3}, {a, -4, 3, -4, 3}, {a, -3, 3, -4, 3}, {a, -4, 4, -4, 3}, {a, -5, 3, -5, 3}, {a, -4, 2, -4, 2},
		{a, 40000, -30000, 40000, -30000}, {a, 40000, -29999, 4, -3}, {a, 39999, -30000, 39999, -30000}, {a, -40000, 30001, -4, 3}, {a, -40000, 29999, -40000, 29999},
		{b, 4, -3, 4, -3}, {b, 3, -3, 4, -3}, {b, 5, -3, 5, -3}, {b, 4, -4, 4, -3}, {b, 4, -2, 4, -2}, {b, -4, 3, -4, 3}, {b, -5, 3, -4, 3}, {b, -4, 2, -4, 3}, {b, -4, 4, -4, 4}, {b, -3, 3, -3, 3},
		{b, -40000, 30000, -40000, 30000}, {b, -40000, 29999, -4, 3}, {b, -39999, 30000, -39999, 30000},
		{a, 3, 4, 0, 0}, {b, -3, -4, 0, 0}, {a, -3, -4, -3, -4}, {b, 3, 4, 3, 4}, {a, 2, 4, -4, 3}, {a, 4, 4, 4, -3}, {a, 15 * 256, 20 * 256, 0, 0}, {a, 15*256 + 1, 20 * 256, 4, -3}, {a, 15 * 256, 20*256 + 1, -4, 3},
	} {
		expectNormal(t, vec(o.from.X+o.x, o.from.Y+o.y), s, vec(o.nx, o.ny))
	}
	expectNormal(t, vec(2, 3), segment{vec(0, 0), vec(3, 4)}, vec(-4, 3)) // with a Cross of 1, and with one of -1
	expectNormal(t, vec(1, 1), segment{vec(0, 0), vec(3, 4)}, vec(4, -3))
	great := segment{vec(-coord, -coord), vec(coord, coord-1)} // nothing to reduce
	expectNormal(t, vec(0, 0), great, vec(1-2*coord, 2*coord))
	expectNormal(t, vec(0, -256), great, vec(2*coord-1, -2*coord))
	expectNormal(t, vec(-256*coord, 256-256*coord), segment{vec(-coord, -coord), vec(coord, coord)}, vec(-1, 1))
	expectNormal(t, vec(-256*coord, -256*coord), segment{vec(coord, coord), vec(coord-2, coord-2)}, vec(2-1<<21, 2-1<<21))
}

// P11.3: positions that are not permitted for points and ends of segments.
func TestNormalWithOtherPositions(t *testing.T) {
	for _, p := range out(coord) {
		for _, q := range []api.Vec{{}, {X: 5, Y: -7}, {X: 256 * p.X, Y: 256 * p.Y}, {X: 256*p.X + 9, Y: 256 * p.Y}, p, {X: small, Y: -small}} {
			expectOneNormal(t, q, segment{p, p}, api.Vec{})
			expectOneNormal(t, q, segment{p, vec(0, 0)}, api.Vec{})
			expectOneNormal(t, q, segment{p, vec(-p.X, -p.Y)}, api.Vec{})
			expectOneNormal(t, q, segment{p, vec(coord, coord)}, api.Vec{})
		}
	}
}

// P11.3: the functions of chapter 6 return zero vectors for a q that is not small, or
// that is not small as seen from the end of the segment that it is looked at from.
func TestNormalOfOtherPlaces(t *testing.T) {
	for _, q := range out(small) {
		for _, s := range segments() {
			expectOneNormal(t, q, s, api.Vec{})
		}
	}
	for _, p := range []segment{{vec(-1, 0), vec(-1, 0)}, {vec(-1, 0), vec(-1, -9)}, {vec(-1, 5), vec(-1, 0)}} {
		expectNormal(t, vec(small-256, 0), p, vec(1<<21, 0))
		expectNormal(t, vec(small-255, 0), p, vec(0, 0))
		expectNormal(t, vec(small, 0), p, vec(0, 0))
	}
	expectNormal(t, vec(small, -small), segment{}, vec(1<<21, -1<<21))
	expectNormal(t, vec(small, -small), segment{vec(1, -1), vec(1, -1)}, vec(1<<21-1, 1-1<<21))
	// Without a difference that is small, it is as if q were at right angles to a.
	expect(t, wall.CapsuleNormal(vec(small, 0), vec(-1, 0), vec(9, 0)), vec(0, 0), "CapsuleNormal of a place far from a")
	expect(t, wall.CapsuleNormal(vec(small, 0), vec(0, 0), vec(-1, 0)), vec(1<<21, 0), "CapsuleNormal of a place far from b")
}

// halved is (x, y) halved until both components are short.
func halved(x, y int) api.Vec {
	for x < -1<<21 || x > 1<<21 || y < -1<<21 || y > 1<<21 {
		x, y = x/2, y/2
	}
	return vec(x, y)
}

// reduced is (x, y) divided by the greatest common divisor of its components.
func reduced(x, y int) api.Vec {
	n, m := max(x, -x), max(y, -y)
	for m > 0 {
		n, m = m, n%m
	}
	return vec(x/n, y/n)
}

// normal is that of s at q, by the nearest point in rational numbers.
func normal(q api.Vec, s segment) api.Vec {
	x, y := big.NewRat(int64(q.X-256*s.a.X), 256), big.NewRat(int64(q.Y-256*s.a.Y), 256)
	dx, dy := whole(s.b.X-s.a.X), whole(s.b.Y-s.a.Y)
	along, across := product(x, y, dx, dy), product(y, x, dx, new(big.Rat).Neg(dy))
	switch {
	case along.Sign() <= 0:
		return halved(q.X-256*s.a.X, q.Y-256*s.a.Y)
	case along.Cmp(product(dx, dy, dx, dy)) >= 0:
		return halved(q.X-256*s.b.X, q.Y-256*s.b.Y)
	}
	n := reduced(s.a.Y-s.b.Y, s.b.X-s.a.X)
	return vec(n.X*across.Sign(), n.Y*across.Sign())
}

// randomPlace is 256 times a position near s, and a bit more or less; some are
// anywhere in the field, others exactly on the segment.
func (s segment) randomPlace(r *rand.Rand, n size) api.Vec {
	p := s.near(r, 1+r.IntN(n.reach))
	switch r.IntN(8) {
	case 0:
		p = position(r, field)
	case 1:
		k := r.IntN(257)
		return vec(s.a.X*(256-k)+s.b.X*k, s.a.Y*(256-k)+s.b.Y*k)
	}
	return vec(256*p.X+around(r, 256), 256*p.Y+around(r, 256))
}

// P11.3: random normals, compared with those by the nearest point in rational numbers.
func TestRandomNormals(t *testing.T) {
	r := rand.New(rand.NewPCG(3, 11))
	for range 3000 {
		for _, n := range sizes() {
			s := randomSegment(r, n.coord)
			q := s.randomPlace(r, n)
			expectNormal(t, q, s, normal(q, s))
		}
	}
}
