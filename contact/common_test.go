package contact_test

import (
	"math"
	"math/big"
	"reflect"
	"strconv"
	"testing"

	"pinball/api"
	"pinball/contact"
	"pinball/integer"
	"pinball/layout"
	"pinball/root"
)

// The greatest absolute values of the components of the positions of balls, of their
// velocities in a state, and of the velocities and half accelerations of valid Motions.
const (
	coord    = api.MaxCoord
	speed    = 1 << 17
	velocity = 1 << 18
	half     = 1 << 12
)

// vec is the vector (x, y).
func vec(x, y int) api.Vec {
	return api.Vec{X: x, Y: y}
}

// plus is the sum of a and b.
func plus(a, b api.Vec) api.Vec {
	return vec(a.X+b.X, a.Y+b.Y)
}

// minus is the difference of a and b.
func minus(a, b api.Vec) api.Vec {
	return vec(a.X-b.X, a.Y-b.Y)
}

// times is a with both components multiplied by n.
func times(n int, a api.Vec) api.Vec {
	return vec(n*a.X, n*a.Y)
}

// fly is the Motion with these components.
func fly(px, py, vx, vy, hx, hy int) api.Motion {
	return api.Motion{P: vec(px, py), V: vec(vx, vy), H: vec(hx, hy)}
}

// The elements of tables that tests use. Names are given by table.

func line(kind, level, ax, ay, bx, by int) api.Wall {
	return api.Wall{Kind: kind, Level: level, A: vec(ax, ay), B: vec(bx, by), Coil: -1, Switch: -1}
}

func bow(level int, c, s, e api.Vec) api.Arc {
	return api.Arc{Level: level, C: c, S: plus(c, s), E: plus(c, e), Switch: -1}
}

func post(level, x, y, size int) api.Post {
	return api.Post{Level: level, C: vec(x, y), Size: size, Coil: -1, Switch: -1}
}

func bat(level, x, y, length int) api.Flipper {
	return api.Flipper{Level: level, P: vec(x, y), Length: length, Low: -80, High: 256, Up: 4, Down: 2, Max: 16, Coil: -1, Switch: -1}
}

func cup(level, x, y, size int) api.Saucer {
	return api.Saucer{Level: level, C: vec(x, y), Size: size, Coil: -1, Switch: -1}
}

// table is a table with balls of the radius 100, and these elements.
func table(balls int, elements ...any) api.Table {
	t := api.Table{Radius: 100, Balls: balls}
	lists := reflect.ValueOf(&t).Elem()
	for n, element := range elements {
		x := reflect.New(reflect.TypeOf(element)).Elem()
		x.Set(reflect.ValueOf(element))
		x.FieldByName("Name").SetString("e" + strconv.Itoa(n))
		for i := range lists.NumField() {
			if l := lists.Field(i); l.Type() == reflect.SliceOf(x.Type()) {
				l.Set(reflect.Append(l, x))
			}
		}
	}
	return t
}

// free is a ball on the table.
func free(level, x, y int) api.Ball {
	return api.Ball{Where: api.Free, Level: level, P: vec(x, y)}
}

// caught is a ball in a saucer.
func caught(slot, level, x, y int) api.Ball {
	return api.Ball{Where: api.Caught, Slot: slot, Level: level, P: vec(x, y)}
}

// state is a state of t with these balls; flippers are at 0, and nothing is away.
func state(t api.Table, balls ...api.Ball) api.State {
	return api.State{Balls: balls, K: make([]int, len(t.Flippers)), Speed: make([]int, len(t.Flippers)), Away: make([]bool, len(t.Walls))}
}

// copyOf is s in memory of its own.
func copyOf(s api.State) api.State {
	s.Balls = append([]api.Ball(nil), s.Balls...)
	s.K = append([]int(nil), s.K...)
	s.Speed = append([]int(nil), s.Speed...)
	s.Away = append([]bool(nil), s.Away...)
	return s
}

// tableCopy is t in memory of its own.
func tableCopy(t api.Table) api.Table {
	return layout.Shift(t, api.Vec{})
}

// expect checks a result.
func expect[T comparable](t *testing.T, got, want T, what ...any) {
	t.Helper()
	if got != want {
		t.Error(append(what, "is", got, "instead of", want)...)
	}
}

// expectValid checks the result of Valid.
func expectValid(t *testing.T, x api.Table, s api.State, want api.Errno, what ...any) {
	t.Helper()
	expect(t, contact.Valid(x, s), want, append([]any{"Valid of"}, what...)...)
}

// beyond are numbers outside of a range: next to it and far away, and such that wrap around.
func beyond(lo, hi int) []int {
	return []int{lo - 1, hi + 1, lo - 2, hi + 2, lo - 1<<32, hi + 1<<32, lo - 1<<40 - 1, hi + 1<<40 + 1, math.MinInt, math.MinInt + 1, math.MaxInt, math.MaxInt - 1}
}

// moment is the Root n / 2^e.
func moment(n, e int) api.Root {
	r, f := root.Of(api.Dyadic{N: integer.Of(n), E: e})
	if f != api.OK {
		panic("the test's time")
	}
	return r
}

// order is root.Cmp.
func order(t *testing.T, r, s api.Root) int {
	t.Helper()
	n, e := root.Cmp(r, s)
	if e != api.OK {
		t.Error("Cmp of", r, s, "has the error", e)
	}
	return n
}

// sign is the sign of the value of r less n / 2^e.
func sign(t *testing.T, r api.Root, n, e int) int {
	t.Helper()
	c, f := root.CmpDyadic(r, api.Dyadic{N: integer.Of(n), E: e})
	if f != api.OK {
		t.Error("CmpDyadic of", r, "has the error", f)
	}
	return c
}

// event is a contact whose time is a multiple of 1/64.
type event struct{ ball, kind, index, at int }

// expectAll checks the contacts of a tick.
func expectAll(t *testing.T, x api.Table, s api.State, m []api.Motion, next []int, want []event, what ...any) {
	t.Helper()
	l, e := contact.All(x, s, m, next)
	if e != api.OK || len(l) != len(want) {
		t.Error(append(what, "has", len(l), "contacts, and the error", e, "instead of", want)...)
		return
	}
	for i, c := range l {
		if c.Ball != want[i].ball || c.Kind != want[i].kind || c.Index != want[i].index || sign(t, c.At, want[i].at, 6) != 0 {
			t.Error(append(what, "has the contact", c, "instead of", want[i])...)
		}
	}
}

// ratio is n / d.
func ratio(n, d int) *big.Rat {
	return big.NewRat(int64(n), int64(d))
}

// point is a pair of rational numbers.
type point struct{ x, y *big.Rat }

// at is the point a.
func at(a api.Vec) point {
	return point{ratio(a.X, 1), ratio(a.Y, 1)}
}

// dot is the sum of the products of the components of p and q.
func (p point) dot(q point) *big.Rat {
	x, y := new(big.Rat).Mul(p.x, q.x), new(big.Rat).Mul(p.y, q.y)
	return x.Add(x, y)
}

// cross is positive if q is to the left of p.
func (p point) cross(q point) *big.Rat {
	x, y := new(big.Rat).Mul(p.x, q.y), new(big.Rat).Mul(p.y, q.x)
	return x.Sub(x, y)
}

// less is p - q.
func (p point) less(q point) point {
	return point{new(big.Rat).Sub(p.x, q.x), new(big.Rat).Sub(p.y, q.y)}
}

// scaled is p with both components multiplied by n.
func (p point) scaled(n *big.Rat) point {
	return point{new(big.Rat).Mul(p.x, n), new(big.Rat).Mul(p.y, n)}
}

// shorter reports whether the length of p is less than n.
func (p point) shorter(n int) bool {
	return p.dot(p).Cmp(ratio(n*n, 1)) < 0
}

// bySegment reports whether the distance of p to the segment from a to b is less than reach.
func bySegment(p, a, b point, reach int) bool {
	d, q := b.less(a), p.less(a)
	part := new(big.Rat)
	if whole := d.dot(d); whole.Sign() > 0 {
		part.Quo(q.dot(d), whole)
	}
	switch {
	case part.Sign() < 0:
		part = ratio(0, 1)
	case part.Cmp(ratio(1, 1)) > 0:
		part = ratio(1, 1)
	}
	return q.less(d.scaled(part)).shorter(reach)
}

// byArc reports whether the distance of p to an arc is less than reach.
func byArc(p point, a api.Arc, reach int) bool {
	c, s, e := at(a.C), at(a.S), at(a.E)
	d := p.less(c)
	if s.less(c).cross(d).Sign() > 0 && d.cross(e.less(c)).Sign() > 0 {
		radius := int(math.Round(math.Hypot(float64(a.S.X-a.C.X), float64(a.S.Y-a.C.Y))))
		return d.shorter(radius+reach) && d.dot(d).Cmp(ratio((radius-reach)*(radius-reach), 1)) > 0
	}
	return p.less(s).shorter(reach) || p.less(e).shorter(reach)
}

// byBlade reports whether the distance of p to the blade of a flipper with the half-angle tangent k / HalfAngle is less than reach.
func byBlade(p point, f api.Flipper, k *big.Rat, reach int) bool {
	u := new(big.Rat).Quo(k, ratio(api.HalfAngle, 1))
	square := new(big.Rat).Mul(u, u)
	n := new(big.Rat).Add(ratio(1, 1), square)
	x, y := new(big.Rat).Sub(ratio(1, 1), square), new(big.Rat).Add(u, u)
	if f.Mirror {
		x.Neg(x)
	}
	way := point{x, y}.scaled(n.Quo(ratio(f.Length, 1), n))
	pivot := at(f.P)
	return bySegment(p, pivot, point{new(big.Rat).Add(pivot.x, way.x), new(big.Rat).Add(pivot.y, way.y)}, reach)
}

// position is the place of a Motion at the time t.
func position(m api.Motion, t *big.Rat) point {
	coordinate := func(p, v, h int) *big.Rat {
		c := new(big.Rat).Mul(ratio(h, 1), t)
		return c.Add(c, ratio(v, 1)).Mul(c, t).Add(c, ratio(p, 1))
	}
	return point{coordinate(m.P.X, m.V.X, m.H.X), coordinate(m.P.Y, m.V.Y, m.H.Y)}
}
