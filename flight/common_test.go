package flight_test

import (
	"math"
	"math/rand/v2"
	"testing"

	"pinball/api"
)

// The greatest absolute values of the components of P, V and H in a valid Motion.
const (
	place    = 1 << 23
	velocity = 1 << 18
	half     = 1 << 12
)

// vec is the vector (x, y).
func vec(x, y int) api.Vec {
	return api.Vec{X: x, Y: y}
}

// fly is the Motion with these components.
func fly(px, py, vx, vy, hx, hy int) api.Motion {
	return api.Motion{P: vec(px, py), V: vec(vx, vy), H: vec(hx, hy)}
}

// component is a component of a Motion, with its greatest absolute value.
type component struct {
	n   *int
	end int
}

// components are those of m, in the order of fly.
func components(m *api.Motion) []component {
	return []component{{&m.P.X, place}, {&m.P.Y, place}, {&m.V.X, velocity}, {&m.V.Y, velocity}, {&m.H.X, half}, {&m.H.Y, half}}
}

// bases are valid Motions: without any motion, an ordinary one, and some at the limits.
func bases() []api.Motion {
	return []api.Motion{
		{},
		fly(100, -200, 30, -7, 5, -4),
		fly(place, place, velocity, velocity, half, half),
		fly(-place, -place, -velocity, -velocity, -half, -half),
		fly(-place, place, -velocity, velocity, -half, half),
	}
}

// beyond are numbers that are out of a range from -end to end: next to it, and such
// that wrap around into it if they are squared, doubled or negated.
func beyond(end int) []int {
	return []int{
		end + 1, -end - 1, end + 2, -end - 2, 2 * end, -2 * end, end << 8, 1 << 31, -1 << 31, 1 << 32, 1<<32 + 5, -1 << 32, -1<<32 + 5,
		1 << 62, 1<<62 + 3, -1 << 62, math.MaxInt, math.MaxInt - 1, -math.MaxInt, math.MinInt, math.MinInt + 2,
	}
}

// wrongs are Motions that are not valid, most of them because of one component alone.
func wrongs() []api.Motion {
	var l []api.Motion
	for _, m := range bases() {
		for _, c := range components(&m) {
			before := *c.n
			for _, n := range beyond(c.end) {
				*c.n = n
				l = append(l, m)
			}
			*c.n = before
		}
	}
	for _, n := range []int{place + 1, -place - 1, math.MaxInt, math.MinInt} {
		l = append(l, fly(n, n, 0, 0, 0, 0), fly(0, 0, n, n, 0, 0), fly(0, 0, 0, 0, n, n), fly(n, n, n, n, n, n))
	}
	return l
}

// randomComponent is from -end to end; many are short or at the limits.
func randomComponent(r *rand.Rand, end int) int {
	switch r.IntN(5) {
	case 0:
		return r.IntN(5) - 2
	case 1:
		return r.IntN(61) - 30
	case 2:
		return (end - r.IntN(3)) * (1 - 2*r.IntN(2))
	default:
		return r.IntN(2*end+1) - end
	}
}

// randomMotion is valid. Every second one has velocities of about the size of its
// acceleration, so that vertices often lie within the tick or near to its ends.
func randomMotion(r *rand.Rand) api.Motion {
	var m api.Motion
	for _, c := range components(&m) {
		*c.n = randomComponent(r, c.end)
	}
	if r.IntN(2) == 0 {
		m.V.X = m.H.X*(r.IntN(5)-3) + r.IntN(5) - 2
		m.V.Y = -m.H.Y*r.IntN(65)/32 + r.IntN(3) - 1
	}
	return m
}

// expect checks a result.
func expect[T comparable](t *testing.T, got, want T, what ...any) {
	t.Helper()
	if got != want {
		t.Error(append(what, "is", got, "instead of", want)...)
	}
}
