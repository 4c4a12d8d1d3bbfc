package flipper_test

import (
	"math"
	"math/big"
	"math/rand/v2"
	"testing"

	"pinball/api"
)

// The greatest absolute values of the components of P, V and H in a valid Motion.
const (
	place    = 1 << 23
	velocity = 1 << 18
	half     = 1 << 12
)

// The greatest absolute values of half-angle tangents (that of a quarter of a turn), of
// speeds and accelerations of them, and of the components of the positions of flippers
// and balls and of 256 times the latter; the greatest length, reach and component of a
// small vector.
const (
	quarter = api.HalfAngle
	swift   = 64
	coord   = api.MaxCoord
	field   = 1 << 21
	fine    = 1 << 29
	size    = api.MaxSize
	far     = 1 << 19
	small   = 1 << 30
)

// vec is the vector (x, y).
func vec(x, y int) api.Vec {
	return api.Vec{X: x, Y: y}
}

// plus is the sum of a and b.
func plus(a, b api.Vec) api.Vec {
	return vec(a.X+b.X, a.Y+b.Y)
}

// minus is the difference of a and b.
func minus(a, b api.Vec) api.Vec {
	return vec(a.X-b.X, a.Y-b.Y)
}

// times is a with both components multiplied by n.
func times(n int, a api.Vec) api.Vec {
	return vec(n*a.X, n*a.Y)
}

// fly is the Motion with these components.
func fly(px, py, vx, vy, hx, hy int) api.Motion {
	return api.Motion{P: vec(px, py), V: vec(vx, vy), H: vec(hx, hy)}
}

// bat is a flipper at p with this length and all angles, and with fields that do not matter.
func bat(p api.Vec, length int) api.Flipper {
	return api.Flipper{Name: "bat", Level: 2, P: p, Length: length, Low: -quarter, High: quarter, Up: 4, Down: 2, Max: 8, Rest: 5, Grip: 3, Coil: 7, Switch: 9}
}

// change is one of the four ways to mirror in X and in Y.
type change struct{ x, y bool }

// changes are all of them.
func changes() []change {
	return []change{{false, false}, {true, false}, {false, true}, {true, true}}
}

// of is what becomes of a position or direction.
func (c change) of(a api.Vec) api.Vec {
	if c.x {
		a.X = -a.X
	}
	if c.y {
		a.Y = -a.Y
	}
	return a
}

// angle is what becomes of a half-angle tangent or of a speed of it.
func (c change) angle(k int) int {
	if c.y {
		return -k
	}
	return k
}

// flipper is what becomes of a flipper.
func (c change) flipper(f api.Flipper) api.Flipper {
	f.P = c.of(f.P)
	if c.x {
		f.Mirror = !f.Mirror
	}
	if c.y {
		f.Low, f.High = -f.High, -f.Low
	}
	return f
}

// motion is what becomes of a Motion.
func (c change) motion(m api.Motion) api.Motion {
	return api.Motion{P: c.of(m.P), V: c.of(m.V), H: c.of(m.H)}
}

// expect checks a result.
func expect[T comparable](t *testing.T, got, want T, what ...any) {
	t.Helper()
	if got != want {
		t.Error(append(what, "is", got, "instead of", want)...)
	}
}

// beyond are numbers that are out of a range from -end to end: next to it, and such
// that wrap around into it if they are squared, doubled or negated.
func beyond(end int) []int {
	return []int{
		end + 1, -end - 1, end + 2, -end - 2, 2*end + 1, -2*end - 1, end << 8, 1<<30 + 1, -1<<30 - 1, 1 << 31, -1 << 31, 1 << 32, 1<<32 + 5, -1 << 32, -1<<32 + 5,
		1 << 54, 1<<56 + 1, 1 << 62, 1<<62 + 3, -1 << 62, math.MaxInt, math.MaxInt - 1, -math.MaxInt, math.MinInt, math.MinInt + 2,
	}
}

// out are positions that are out of a range from -end to end in one component or in both.
func out(end int) []api.Vec {
	var l []api.Vec
	for _, n := range beyond(end) {
		for _, o := range []int{0, 1, -end, end, n} {
			l = append(l, vec(n, o), vec(o, n))
		}
	}
	return l
}

// wrongs are Motions that are not valid, because of one component or of all.
func wrongs() []api.Motion {
	l := []api.Motion{fly(math.MinInt, math.MinInt, math.MinInt, math.MinInt, math.MinInt, math.MinInt)}
	for _, m := range []api.Motion{{}, fly(490, -5, 3, 1, -1, 2), fly(place, place, velocity, velocity, half, half)} {
		for _, c := range []struct {
			end int
			of  func(m *api.Motion) *api.Vec
		}{
			{place, func(m *api.Motion) *api.Vec { return &m.P }},
			{velocity, func(m *api.Motion) *api.Vec { return &m.V }},
			{half, func(m *api.Motion) *api.Vec { return &m.H }},
		} {
			for _, n := range beyond(c.end) {
				x, y := m, m
				c.of(&x).X = n
				c.of(&y).Y = n
				l = append(l, x, y)
			}
		}
	}
	return l
}

// ratio is n / d.
func ratio(n, d int) *big.Rat {
	return big.NewRat(int64(n), int64(d))
}

// point is a pair of rational numbers.
type point struct{ x, y *big.Rat }

// at is the point a / d.
func at(a api.Vec, d int) point {
	return point{ratio(a.X, d), ratio(a.Y, d)}
}

// dot is the sum of the products of the components of p and q.
func (p point) dot(q point) *big.Rat {
	x, y := new(big.Rat).Mul(p.x, q.x), new(big.Rat).Mul(p.y, q.y)
	return x.Add(x, y)
}

// less is p - q.
func (p point) less(q point) point {
	return point{new(big.Rat).Sub(p.x, q.x), new(big.Rat).Sub(p.y, q.y)}
}

// scaled is p with both components multiplied by n.
func (p point) scaled(n *big.Rat) point {
	return point{new(big.Rat).Mul(p.x, n), new(big.Rat).Mul(p.y, n)}
}

// cut is p with both components truncated toward 0.
func (p point) cut() api.Vec {
	toward := func(n *big.Rat) int { return int(new(big.Int).Quo(n.Num(), n.Denom()).Int64()) }
	return vec(toward(p.x), toward(p.y))
}

// tangent is the tangent of half the angle of a blade that moves from from to to, at the time t.
func tangent(from, to int, t *big.Rat) *big.Rat {
	u := new(big.Rat).Mul(ratio(to-from, quarter), t)
	return u.Add(u, ratio(from, quarter))
}

// heading is the direction of a blade, out of the tangent of half its angle: its cosine and its sine.
func heading(f api.Flipper, u *big.Rat) point {
	square := new(big.Rat).Mul(u, u)
	under := new(big.Rat).Add(ratio(1, 1), square)
	cosine := new(big.Rat).Sub(ratio(1, 1), square)
	sine := new(big.Rat).Add(u, u)
	if f.Mirror {
		cosine.Neg(cosine)
	}
	return point{cosine.Quo(cosine, under), sine.Quo(sine, under)}
}

// nearest is the point of a blade that is nearest to p, both as seen from its pivot.
func nearest(f api.Flipper, u *big.Rat, p point) point {
	d := heading(f, u)
	way := p.dot(d)
	if way.Sign() < 0 {
		way = ratio(0, 1)
	}
	if end := ratio(f.Length, 1); way.Cmp(end) > 0 {
		way = end
	}
	return d.scaled(way)
}

// includes reports whether p is nearer to a blade than reach.
func includes(f api.Flipper, u *big.Rat, p point, reach int) bool {
	p = p.less(at(f.P, 1))
	p = p.less(nearest(f, u, p))
	return p.dot(p).Cmp(ratio(reach*reach, 1)) < 0
}

// position is the place of a Motion at the time t.
func position(m api.Motion, t *big.Rat) point {
	coordinate := func(p, v, h int) *big.Rat {
		c := new(big.Rat).Mul(ratio(h, 1), t)
		return c.Add(c, ratio(v, 1)).Mul(c, t).Add(c, ratio(p, 1))
	}
	return point{coordinate(m.P.X, m.V.X, m.H.X), coordinate(m.P.Y, m.V.Y, m.H.Y)}
}

// number is the value of a.
func number(a api.Int) *big.Int {
	v := new(big.Int)
	for i := len(a.L) - 1; i >= 0; i-- {
		v.Lsh(v, 32)
		v.Or(v, big.NewInt(int64(a.L[i])))
	}
	if a.Neg {
		v.Neg(v)
	}
	return v
}

// holds reports whether some conjunction of l holds at the time t.
func holds(l [][]api.Poly, t *big.Rat) bool {
conjunctions:
	for _, c := range l {
		for _, p := range c {
			sum := new(big.Rat)
			for i := len(p) - 1; i >= 0; i-- {
				sum.Mul(sum, t).Add(sum, new(big.Rat).SetInt(number(p[i])))
			}
			if sum.Sign() <= 0 {
				continue conjunctions
			}
		}
		return true
	}
	return false
}

// span has the limits of a random case: of the coordinates of the pivot, lengths, velocities, half accelerations and reaches.
type span struct{ coord, length, velocity, half, reach int }

// spans are small, so that positions lie exactly at the reach often, ordinary, and the greatest.
func spans() []span {
	return []span{{6, 25, 16, 16, 9}, {40, 200, 64, 32, 90}, {2000, 3000, 500, 8, 300}, {coord, size, 1 << 14, 1 << 8, 1 << 15}, {coord, size, velocity, half, far}}
}

// some is a random number from -n to n; many are 0 or at the ends.
func some(r *rand.Rand, n int) int {
	switch r.IntN(6) {
	case 0:
		return 0
	case 1:
		return n - 2*n*r.IntN(2)
	}
	return r.IntN(2*n+1) - n
}

// anywhere is a random vector with components from -n to n.
func anywhere(r *rand.Rand, n int) api.Vec {
	return vec(some(r, n), some(r, n))
}

// lot is a random permitted flipper, with a tick of its blade and a reach.
type lot struct {
	f               api.Flipper
	from, to, reach int
}

// draw is such a lot within the limits of n. Many blades have directions with small whole numbers.
func draw(r *rand.Rand, n span) lot {
	x := lot{f: bat(anywhere(r, n.coord), 1+r.IntN(n.length)), reach: 1 + r.IntN(n.reach)}
	x.f.Mirror = r.IntN(2) == 0
	if r.IntN(2) == 0 && n.length >= 25 {
		x.f.Length = 25 * (1 + r.IntN(n.length/25))
	}
	if r.IntN(6) == 0 {
		x.f.Length, x.reach = n.length, n.reach
	}
	angle := func() int {
		if r.IntN(2) == 0 {
			return 64 * (r.IntN(9) - 4)
		}
		return some(r, quarter)
	}
	x.from, x.to = angle(), angle()
	switch r.IntN(4) {
	case 0:
		x.to = x.from
	case 1:
		x.to = min(max(x.from+some(r, swift), -quarter), quarter)
	}
	return x
}

// near is a random position about as far from the blade with the tangent u as the reach.
func (x lot) near(r *rand.Rand, u *big.Rat) api.Vec {
	d := heading(x.f, u)
	cos, _ := d.x.Float64()
	sin, _ := d.y.Float64()
	way := float64(x.f.Length) * float64(r.IntN(17)) / 16
	off := float64(x.reach) * []float64{1, 1, -1, -1, 0.5, 1.1}[r.IntN(6)]
	px, py := way*cos-off*sin, way*sin+off*cos // at right angles to the blade
	if r.IntN(3) == 0 {
		s, c := math.Sincos(2 * math.Pi * r.Float64())
		px, py = way*cos+off*c, way*sin+off*s
	}
	return plus(x.f.P, vec(int(math.Round(px))+r.IntN(3)-1, int(math.Round(py))+r.IntN(3)-1))
}

// passing is a random Motion that is near the edge at some sixteenth of the tick.
func (x lot) passing(r *rand.Rand, n span) api.Motion {
	j := []int{0, 8, 16, r.IntN(17), r.IntN(17)}[r.IntN(5)]
	m := api.Motion{P: x.near(r, tangent(x.from, x.to, ratio(j, 16))), V: anywhere(r, n.velocity), H: anywhere(r, n.half)}
	if r.IntN(4) == 0 {
		m.V, m.H = api.Vec{}, api.Vec{}
	}
	m.P.X -= (16*j*m.V.X + j*j*m.H.X) / 256
	m.P.Y -= (16*j*m.V.Y + j*j*m.H.Y) / 256
	return m
}

// fineNear is a random place in 256ths, about as far from the blade as the reach at the sixteenth j, or on it.
func (x lot) fineNear(r *rand.Rand, j int) api.Vec {
	u := tangent(x.from, x.to, ratio(j, 16))
	if r.IntN(4) == 0 {
		d := heading(x.f, u).scaled(ratio(x.f.Length*r.IntN(300), 1))
		return plus(times(256, x.f.P), d.cut())
	}
	return plus(times(256, x.near(r, u)), vec(r.IntN(511)-255, r.IntN(511)-255))
}

// moves are ticks of blades: at rest, rising and falling, up to the ends of their range.
func moves() [][2]int {
	return [][2]int{{0, 0}, {-60, -60}, {128, 128}, {quarter, quarter}, {-quarter, -quarter}, {0, 16}, {-60, -44}, {40, 56}, {50, 18}, {3, 2}, {-7, -9}, {0, quarter}, {quarter, 0}, {-quarter, quarter}, {quarter, -quarter}, {-quarter, 1 - quarter}, {quarter - 64, quarter}}
}
