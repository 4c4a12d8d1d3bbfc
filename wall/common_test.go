package wall_test

import (
	"math"
	"math/big"
	"math/rand/v2"
	"testing"

	"pinball/api"
	"pinball/wall"
)

// The greatest absolute values of the components of P, V and H in a valid Motion.
const (
	place    = 1 << 23
	velocity = 1 << 18
	half     = 1 << 12
)

// The greatest reach, and the greatest absolute values of the components of the
// positions of points and of balls.
const (
	far   = 1 << 19
	coord = api.MaxCoord
	field = 1 << 21
)

// vec is the vector (x, y).
func vec(x, y int) api.Vec {
	return api.Vec{X: x, Y: y}
}

// fly is the Motion with these components.
func fly(px, py, vx, vy, hx, hy int) api.Motion {
	return api.Motion{P: vec(px, py), V: vec(vx, vy), H: vec(hx, hy)}
}

// mirrored is a with the other sign of X.
func mirrored(a api.Vec) api.Vec {
	return vec(-a.X, a.Y)
}

// turned is a turned counterclockwise by k right angles.
func turned(a api.Vec, k int) api.Vec {
	for range k {
		a = vec(-a.Y, a.X)
	}
	return a
}

// expect checks a result.
func expect[T comparable](t *testing.T, got, want T, what ...any) {
	t.Helper()
	if got != want {
		t.Error(append(what, "is", got, "instead of", want)...)
	}
}

// beyond are numbers that are out of a range from -end to end: next to it, and such
// that wrap around into it if they are squared, doubled or negated.
func beyond(end int) []int {
	return []int{
		end + 1, -end - 1, end + 2, -end - 2, 2 * end, -2 * end, end << 8, 1<<30 + 1, -1<<30 - 1, 1 << 31, -1 << 31, 1 << 32, 1<<32 + 5, -1 << 32, -1<<32 + 5,
		1 << 54, 1<<56 + 1, 1 << 62, 1<<62 + 3, -1 << 62, math.MaxInt, math.MaxInt - 1, -math.MaxInt, math.MinInt, math.MinInt + 2,
	}
}

// out are positions that are out of a range from -end to end in one component or in both.
func out(end int) []api.Vec {
	var l []api.Vec
	for _, n := range beyond(end) {
		for _, o := range []int{0, 1, -end, end, n} {
			l = append(l, vec(n, o), vec(o, n))
		}
	}
	return l
}

// wrongs are Motions that are not valid, because of one component or of all.
func wrongs() []api.Motion {
	l := []api.Motion{fly(math.MinInt, math.MinInt, math.MinInt, math.MinInt, math.MinInt, math.MinInt)}
	for _, m := range []api.Motion{{}, fly(90, -5, 3, 1, -1, 2), fly(place, place, velocity, velocity, half, half)} {
		for _, n := range beyond(place) {
			wrong := m
			wrong.P.X = n
			l = append(l, wrong)
			wrong = m
			wrong.P.Y = n
			l = append(l, wrong)
		}
		for _, n := range beyond(velocity) {
			wrong := m
			wrong.V.X = n
			l = append(l, wrong)
			wrong = m
			wrong.V.Y = n
			l = append(l, wrong)
		}
		for _, n := range beyond(half) {
			wrong := m
			wrong.H.X = n
			l = append(l, wrong)
			wrong = m
			wrong.H.Y = n
			l = append(l, wrong)
		}
	}
	return l
}

// segment is a segment from a to b, or the point a if they are equal.
type segment struct{ a, b api.Vec }

// description is what Disc or Capsule returns.
type description struct {
	name string
	l    [][]api.Poly
}

// descriptions are what Capsule returns for s both ways round, and what Disc does if s is a point.
func (s segment) descriptions(m api.Motion, reach int) []description {
	l := []description{{"Capsule", wall.Capsule(m, s.a, s.b, reach)}, {"Capsule of the reversed", wall.Capsule(m, s.b, s.a, reach)}}
	if s.a == s.b {
		l = append(l, description{"Disc", wall.Disc(m, s.a, reach)})
	}
	return l
}

// whole is n as a rational number.
func whole(n int) *big.Rat {
	return big.NewRat(int64(n), 1)
}

// square is the square of the distance from (x, y) to the segment, by its nearest point.
func (s segment) square(x, y *big.Rat) *big.Rat {
	dx, dy := whole(s.b.X-s.a.X), whole(s.b.Y-s.a.Y)
	x, y = new(big.Rat).Sub(x, whole(s.a.X)), new(big.Rat).Sub(y, whole(s.a.Y)) // as seen from a
	if s.a != s.b {
		part := new(big.Rat).Quo(product(x, y, dx, dy), product(dx, dy, dx, dy)) // of the way from a to b
		switch {
		case part.Sign() < 0:
			part = whole(0)
		case part.Cmp(whole(1)) > 0:
			part = whole(1)
		}
		x.Sub(x, dx.Mul(dx, part))
		y.Sub(y, dy.Mul(dy, part))
	}
	return product(x, y, x, y)
}

// product is x u + y v.
func product(x, y, u, v *big.Rat) *big.Rat {
	xu, yv := new(big.Rat).Mul(x, u), new(big.Rat).Mul(y, v)
	return xu.Add(xu, yv)
}

// includes reports whether (x, y) is nearer to the segment than reach.
func (s segment) includes(x, y *big.Rat, reach int) bool {
	return reach > 0 && s.square(x, y).Cmp(whole(reach*reach)) < 0
}

// coordinate is p + v t + h t^2.
func coordinate(p, v, h int, t *big.Rat) *big.Rat {
	c := new(big.Rat).Mul(whole(h), t)
	return c.Add(c, whole(v)).Mul(c, t).Add(c, whole(p))
}

// number is the value of a.
func number(a api.Int) *big.Int {
	v := new(big.Int)
	for i := len(a.L) - 1; i >= 0; i-- {
		v.Lsh(v, 32)
		v.Or(v, big.NewInt(int64(a.L[i])))
	}
	if a.Neg {
		v.Neg(v)
	}
	return v
}

// holds reports whether some conjunction of l holds at the time t.
func holds(l [][]api.Poly, t *big.Rat) bool {
conjunctions:
	for _, c := range l {
		for _, p := range c {
			sum := whole(0)
			for i := len(p) - 1; i >= 0; i-- {
				sum.Mul(sum, t).Add(sum, new(big.Rat).SetInt(number(p[i])))
			}
			if sum.Sign() <= 0 {
				continue conjunctions
			}
		}
		return true
	}
	return false
}

// size has the limits of a random case: of coordinates, velocities, half accelerations and reaches.
type size struct{ coord, velocity, half, reach int }

// sizes are small, so that positions lie exactly at the reach often, ordinary, and the greatest.
func sizes() []size {
	return []size{{6, 16, 16, 5}, {40, 64, 32, 30}, {2000, 500, 8, 300}, {coord, 1 << 14, 1 << 8, 1 << 15}, {coord, velocity, half, far}}
}

// around is a random number from -n to n; many are 0 or at the ends.
func around(r *rand.Rand, n int) int {
	switch r.IntN(6) {
	case 0:
		return 0
	case 1:
		return n - 2*n*r.IntN(2)
	}
	return r.IntN(2*n+1) - n
}

// position is a random position with components from -n to n.
func position(r *rand.Rand, n int) api.Vec {
	return vec(around(r, n), around(r, n))
}

// randomSegment is a segment of any direction, along an axis, or a point.
func randomSegment(r *rand.Rand, n int) segment {
	s := segment{position(r, n), position(r, n)}
	switch r.IntN(6) {
	case 0:
		s.b = s.a
	case 1:
		s.b.X = s.a.X
	case 2:
		s.b.Y = s.a.Y
	}
	return s
}

// near is a random position about as far from the segment as reach, where that is possible.
func (s segment) near(r *rand.Rand, reach int) api.Vec {
	k := r.IntN(17)
	x, y := s.a.X+(s.b.X-s.a.X)*k/16, s.a.Y+(s.b.Y-s.a.Y)*k/16
	sin, cos := math.Sincos(2 * math.Pi * r.Float64())
	if length := math.Hypot(float64(s.b.X-s.a.X), float64(s.b.Y-s.a.Y)); length > 0 && r.IntN(2) == 0 { // at right angles
		sin, cos = float64(s.b.X-s.a.X)/length, float64(s.a.Y-s.b.Y)/length
	}
	way := float64(reach) * []float64{1, 1, 1, -1, 0.5, 1.1}[r.IntN(6)]
	return vec(x+int(math.Round(way*cos))+r.IntN(3)-1, y+int(math.Round(way*sin))+r.IntN(3)-1)
}

// passing is a random Motion that is near the edge of the capsule at some sixteenth
// of the tick, or a bit before or behind it.
func (s segment) passing(r *rand.Rand, n size, reach int) api.Motion {
	m := api.Motion{P: s.near(r, reach), V: position(r, n.velocity), H: position(r, n.half)}
	if r.IntN(6) == 0 {
		m.V, m.H = api.Vec{}, api.Vec{}
	}
	j := []int{0, 8, 16, r.IntN(17), r.IntN(49) - 16}[r.IntN(5)]
	m.P.X -= (16*j*m.V.X + j*j*m.H.X) / 256
	m.P.Y -= (16*j*m.V.Y + j*j*m.H.Y) / 256
	return m
}
