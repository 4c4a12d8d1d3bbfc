package flight_test

import (
	"math/rand/v2"
	"testing"

	"pinball/api"
	"pinball/flight"
)

// end is the greatest component of a small vector.
const end = 1 << 30

// P10.3: Energy of small vectors.
func TestEnergy(t *testing.T) {
	for v, want := range map[api.Vec]int{
		{}:                       0,
		{X: 1}:                   1,
		{Y: -1}:                  1,
		{X: 3, Y: -4}:            25,
		{X: -3, Y: 4}:            25,
		{X: -12, Y: -5}:          169,
		{X: 7}:                   49,
		{Y: 9}:                   81,
		{X: velocity, Y: 1}:      1<<36 + 1,
		{X: velocity + 1}:        1<<36 + 1<<19 + 1, // no velocity of a valid Motion, but small
		{X: place, Y: place}:     1 << 47,
		{X: end}:                 1 << 60,
		{Y: -end}:                1 << 60,
		{X: end, Y: end}:         1 << 61,
		{X: -end, Y: end}:        1 << 61,
		{X: -end, Y: -end}:       1 << 61,
		{X: end - 1, Y: 1 - end}: 1<<61 - 1<<32 + 2,
	} {
		expect(t, flight.Energy(v), want, "Energy of", v)
	}
	r := rand.New(rand.NewPCG(4, 10))
	for range 3000 {
		v := vec(randomComponent(r, end), randomComponent(r, end))
		expect(t, flight.Energy(v), v.X*v.X+v.Y*v.Y, "Energy of", v)
	}
}

// P10.3: Energy of vectors that are not small, in one component or in both.
func TestEnergyNotSmall(t *testing.T) {
	for _, n := range beyond(end) {
		for _, o := range []int{0, 1, -5, end, -end, n} {
			expect(t, flight.Energy(vec(n, o)), 0, "Energy of", n, o)
			expect(t, flight.Energy(vec(o, n)), 0, "Energy of", o, n)
		}
	}
}
