package arc_test

import (
	"math"
	"math/big"
	"math/rand/v2"
	"testing"

	"pinball/api"
)

// The greatest absolute values of the components of P, V and H in a valid Motion.
const (
	place    = 1 << 23
	velocity = 1 << 18
	half     = 1 << 12
)

// The greatest radius, and the greatest absolute values of the components of the
// positions of arcs and of balls, and of the places that Sector takes.
const (
	size  = api.MaxSize
	coord = api.MaxCoord
	field = 1 << 21
	fine  = 1 << 29
)

// vec is the vector (x, y).
func vec(x, y int) api.Vec {
	return api.Vec{X: x, Y: y}
}

// plus is the sum of a and b.
func plus(a, b api.Vec) api.Vec {
	return vec(a.X+b.X, a.Y+b.Y)
}

// minus is the difference of a and b.
func minus(a, b api.Vec) api.Vec {
	return vec(a.X-b.X, a.Y-b.Y)
}

// times is a with both components multiplied by n.
func times(n int, a api.Vec) api.Vec {
	return vec(n*a.X, n*a.Y)
}

// fly is the Motion with these components.
func fly(px, py, vx, vy, hx, hy int) api.Motion {
	return api.Motion{P: vec(px, py), V: vec(vx, vy), H: vec(hx, hy)}
}

// mirrored is a with the other sign of X.
func mirrored(a api.Vec) api.Vec {
	return vec(-a.X, a.Y)
}

// turned is a turned counterclockwise by k right angles.
func turned(a api.Vec, k int) api.Vec {
	for range k {
		a = vec(-a.Y, a.X)
	}
	return a
}

// bow is the arc around c from s to e, with fields that do not matter.
func bow(c, s, e api.Vec) api.Arc {
	return api.Arc{Name: "bow", Level: 2, C: c, S: s, E: e, Rest: 5, Grip: 3, Min: 7, Switch: 9}
}

// around is the arc around c whose ends are at s and e as seen from there.
func around(c, s, e api.Vec) api.Arc {
	return bow(c, plus(c, s), plus(c, e))
}

// change is one of the eight ways to turn by right angles, mirrored or not.
type change struct {
	right  int
	mirror bool
}

// changes are all of them.
func changes() []change {
	var l []change
	for k := range 4 {
		l = append(l, change{k, false}, change{k, true})
	}
	return l
}

// of is what becomes of a position or direction.
func (c change) of(a api.Vec) api.Vec {
	if c.mirror {
		a = mirrored(a)
	}
	return turned(a, c.right)
}

// arc is what becomes of an arc; mirroring exchanges its ends.
func (c change) arc(a api.Arc) api.Arc {
	a.C, a.S, a.E = c.of(a.C), c.of(a.S), c.of(a.E)
	if c.mirror {
		a.S, a.E = a.E, a.S
	}
	return a
}

// motion is what becomes of a Motion.
func (c change) motion(m api.Motion) api.Motion {
	return api.Motion{P: c.of(m.P), V: c.of(m.V), H: c.of(m.H)}
}

// expect checks a result.
func expect[T comparable](t *testing.T, got, want T, what ...any) {
	t.Helper()
	if got != want {
		t.Error(append(what, "is", got, "instead of", want)...)
	}
}

// beyond are numbers that are out of a range from -end to end: next to it, and such
// that wrap around into it if they are squared, doubled or negated.
func beyond(end int) []int {
	return []int{
		end + 1, -end - 1, end + 2, -end - 2, 2 * end, -2 * end, end << 8, 1<<30 + 1, -1<<30 - 1, 1 << 31, -1 << 31, 1 << 32, 1<<32 + 5, -1 << 32, -1<<32 + 5,
		1 << 54, 1<<56 + 1, 1 << 62, 1<<62 + 3, -1 << 62, math.MaxInt, math.MaxInt - 1, -math.MaxInt, math.MinInt, math.MinInt + 2,
	}
}

// out are positions that are out of a range from -end to end in one component or in both.
func out(end int) []api.Vec {
	var l []api.Vec
	for _, n := range beyond(end) {
		for _, o := range []int{0, 1, -end, end, n} {
			l = append(l, vec(n, o), vec(o, n))
		}
	}
	return l
}

// wrongs are Motions that are not valid, because of one component or of all.
func wrongs() []api.Motion {
	l := []api.Motion{fly(math.MinInt, math.MinInt, math.MinInt, math.MinInt, math.MinInt, math.MinInt)}
	for _, m := range []api.Motion{{}, fly(490, -5, 3, 1, -1, 2), fly(place, place, velocity, velocity, half, half)} {
		for _, c := range []struct {
			end int
			of  func(m *api.Motion) *api.Vec
		}{
			{place, func(m *api.Motion) *api.Vec { return &m.P }},
			{velocity, func(m *api.Motion) *api.Vec { return &m.V }},
			{half, func(m *api.Motion) *api.Vec { return &m.H }},
		} {
			for _, n := range beyond(c.end) {
				x, y := m, m
				c.of(&x).X = n
				c.of(&y).Y = n
				l = append(l, x, y)
			}
		}
	}
	return l
}

// whole is n as a rational number.
func whole(n int) *big.Rat {
	return big.NewRat(int64(n), 1)
}

// product is x u + y v.
func product(x, y, u, v *big.Rat) *big.Rat {
	xu, yv := new(big.Rat).Mul(x, u), new(big.Rat).Mul(y, v)
	return xu.Add(xu, yv)
}

// length is the length of d, which is a whole number.
func length(d api.Vec) int {
	return int(math.Sqrt(float64(d.X*d.X + d.Y*d.Y)))
}

// faces reports whether (x, y), as seen from the center of a permitted arc, is the sum of
// positive parts of the ways from there to both of its ends.
func faces(a api.Arc, x, y *big.Rat) bool {
	s, e := minus(a.S, a.C), minus(a.E, a.C)
	det := whole(s.X*e.Y - s.Y*e.X)
	ofS := new(big.Rat).Quo(product(x, y, whole(e.Y), whole(-e.X)), det)
	ofE := new(big.Rat).Quo(product(x, y, whole(-s.Y), whole(s.X)), det)
	return ofS.Sign() > 0 && ofE.Sign() > 0
}

// square is the square of the distance of (x, y) and p.
func square(x, y *big.Rat, p api.Vec) *big.Rat {
	x, y = new(big.Rat).Sub(x, whole(p.X)), new(big.Rat).Sub(y, whole(p.Y))
	return product(x, y, x, y)
}

// includes reports whether (x, y) is nearer to a permitted arc than reach.
func includes(a api.Arc, x, y *big.Rat, reach int) bool {
	cx, cy := new(big.Rat).Sub(x, whole(a.C.X)), new(big.Rat).Sub(y, whole(a.C.Y))
	if faces(a, cx, cy) {
		q, d := length(minus(a.S, a.C)), product(cx, cy, cx, cy)
		return d.Cmp(whole((q-reach)*(q-reach))) > 0 && d.Cmp(whole((q+reach)*(q+reach))) < 0
	}
	limit := whole(reach * reach)
	return square(x, y, a.S).Cmp(limit) < 0 || square(x, y, a.E).Cmp(limit) < 0
}

// coordinate is p + v t + h t^2.
func coordinate(p, v, h int, t *big.Rat) *big.Rat {
	c := new(big.Rat).Mul(whole(h), t)
	return c.Add(c, whole(v)).Mul(c, t).Add(c, whole(p))
}

// number is the value of a.
func number(a api.Int) *big.Int {
	v := new(big.Int)
	for i := len(a.L) - 1; i >= 0; i-- {
		v.Lsh(v, 32)
		v.Or(v, big.NewInt(int64(a.L[i])))
	}
	if a.Neg {
		v.Neg(v)
	}
	return v
}

// holds reports whether some conjunction of l holds at the time t.
func holds(l [][]api.Poly, t *big.Rat) bool {
conjunctions:
	for _, c := range l {
		for _, p := range c {
			sum := whole(0)
			for i := len(p) - 1; i >= 0; i-- {
				sum.Mul(sum, t).Add(sum, new(big.Rat).SetInt(number(p[i])))
			}
			if sum.Sign() <= 0 {
				continue conjunctions
			}
		}
		return true
	}
	return false
}

// span has the limits of a random case: of coordinates of the center, radii, velocities and half accelerations.
type span struct{ coord, radius, velocity, half int }

// spans are small, so that positions lie exactly at the reach often, ordinary, and the greatest.
func spans() []span {
	return []span{{6, 25, 16, 16}, {40, 200, 64, 32}, {2000, 3000, 500, 8}, {coord - size, size, 1 << 14, 1 << 8}, {coord - size, size, velocity, half}}
}

// some is a random number from -n to n; many are 0 or at the ends.
func some(r *rand.Rand, n int) int {
	switch r.IntN(6) {
	case 0:
		return 0
	case 1:
		return n - 2*n*r.IntN(2)
	}
	return r.IntN(2*n+1) - n
}

// position is a random position with components from -n to n.
func position(r *rand.Rand, n int) api.Vec {
	return vec(some(r, n), some(r, n))
}

// rotated is a, turned and stretched by b, as complex numbers are.
func rotated(a, b api.Vec) api.Vec {
	return vec(a.X*b.X-a.Y*b.Y, a.X*b.Y+a.Y*b.X)
}

// rays are two random directions of the same whole length of at most n, which is at least 5,
// the second of them less than half a turn ahead of the first.
func rays(r *rand.Rand, n int) (s, e api.Vec) {
	for {
		a, b := vec(1, 0), vec(1, 0)
		for range r.IntN(3) {
			u := vec(1+r.IntN(9), r.IntN(9))
			a, b = rotated(a, rotated(u, u)), rotated(b, rotated(u, vec(u.Y, u.X)))
		}
		a, b = turned(a, r.IntN(4)), turned(mirrored(b), r.IntN(4))
		if k := length(a); k <= n {
			k = 1 + r.IntN(n/k)
			a, b = times(k, a), times(k, b)
		}
		if k := length(a); k <= n && k >= 5 && a.X*b.Y > a.Y*b.X {
			return a, b
		}
	}
}

// randomArc is a random permitted arc within the limits of n.
func randomArc(r *rand.Rand, n span) api.Arc {
	s, e := rays(r, n.radius)
	return around(position(r, n.coord), s, e)
}

// near is a random position about as far from the circle or from an end of the arc as reach.
func near(r *rand.Rand, a api.Arc, reach int) api.Vec {
	s, e := minus(a.S, a.C), minus(a.E, a.C)
	way := float64(reach) * []float64{1, 1, -1, -1, 0.5, 1.1}[r.IntN(6)]
	sin, cos := math.Sincos(2 * math.Pi * r.Float64())
	x, y := way*cos, way*sin
	from := a.S
	switch r.IntN(4) {
	case 0:
		from = a.E
	case 1, 2: // in the sector, or on its edges
		k := r.IntN(17)
		d := plus(times(16-k, s), times(k, e))
		part := (float64(length(s)) + way) / math.Hypot(float64(d.X), float64(d.Y))
		from, x, y = a.C, float64(d.X)*part, float64(d.Y)*part
	}
	return plus(from, vec(int(math.Round(x))+r.IntN(3)-1, int(math.Round(y))+r.IntN(3)-1))
}

// passing is a random Motion that is near the edge of the surroundings at some sixteenth
// of the tick, or a bit before or behind it.
func passing(r *rand.Rand, a api.Arc, n span, reach int) api.Motion {
	m := api.Motion{P: near(r, a, reach), V: position(r, n.velocity), H: position(r, n.half)}
	if r.IntN(6) == 0 {
		m.V, m.H = api.Vec{}, api.Vec{}
	}
	j := []int{0, 8, 16, r.IntN(17), r.IntN(49) - 16}[r.IntN(5)]
	m.P.X -= (16*j*m.V.X + j*j*m.H.X) / 256
	m.P.Y -= (16*j*m.V.Y + j*j*m.H.Y) / 256
	return m
}

// randomReach is a random reach that is permitted for a.
func randomReach(r *rand.Rand, a api.Arc) int {
	q := length(minus(a.S, a.C))
	return []int{1, q - 1, 1 + r.IntN(q-1), 1 + r.IntN(q-1), 1 + r.IntN(1+q/4)}[r.IntN(5)]
}

// arcs are permitted arcs of several kinds, with radii of at least 2.
func arcs() []api.Arc {
	return []api.Arc{
		bow(vec(0, 0), vec(500, 0), vec(0, 500)),
		around(vec(3, -7), vec(5, 0), vec(-4, 3)),
		around(vec(-100, 20), vec(-16, -63), vec(63, -16)),
		around(vec(90, 80), vec(24, 7), vec(7, 24)),
		around(vec(-9, 0), vec(44472, 199529), vec(44220, 199585)), // short, with the radius 204425
		around(vec(70, -500), vec(160225, 0), vec(-160212, 2041)),  // nearly half a circle
		around(vec(size-coord, coord-size), vec(size, 0), vec(0, size)),
		around(vec(-coord, -coord), vec(2, 0), vec(0, 2)),
	}
}
