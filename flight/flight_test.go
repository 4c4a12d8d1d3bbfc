package flight_test

import (
	"math"
	"math/big"
	"math/rand/v2"
	"testing"

	"pinball/api"
	"pinball/flight"
)

// P10.1: each component has a range of its own, with both of its ends.
func TestValid(t *testing.T) {
	for _, m := range bases() {
		expect(t, flight.Valid(m), true, "Valid of", m)
		for _, c := range components(&m) {
			before := *c.n
			for _, n := range []int{0, 1, -1, c.end - 1, 1 - c.end, c.end, -c.end} {
				*c.n = n
				expect(t, flight.Valid(m), true, "Valid of", m)
			}
			for _, n := range beyond(c.end) {
				*c.n = n
				expect(t, flight.Valid(m), false, "Valid of", m)
			}
			*c.n = before
		}
	}
}

// P10.1: all components at the ends of their ranges at once, with all signs.
func TestValidAtTheEnds(t *testing.T) {
	for k := range 64 {
		var m api.Motion
		for i, c := range components(&m) {
			*c.n = c.end * (1 - k>>i&1*2)
		}
		expect(t, flight.Valid(m), true, "Valid of", m)
	}
}

// P10.1, P10.2: the functions return zero values for Motions that are not valid.
func TestNotValid(t *testing.T) {
	for _, m := range wrongs() {
		expect(t, flight.Valid(m), false, "Valid of", m)
		p, v := flight.End(m)
		expect(t, p, api.Vec{}, "the place of End of", m)
		expect(t, v, api.Vec{}, "the velocity of End of", m)
		for _, j := range []int{math.MinInt, -1, 0, 1, 7, 8, 16, 17, math.MaxInt} {
			expect(t, flight.At(m, j), api.Vec{}, "At of", m, j)
		}
		x, y := flight.Polys(m)
		expect(t, len(x)+len(y), 0, "the number of coefficients of Polys of", m)
		lo, hi := flight.Box(m)
		expect(t, lo, api.Vec{}, "the low corner of Box of", m)
		expect(t, hi, api.Vec{}, "the high corner of Box of", m)
	}
}

// expectEnd checks End.
func expectEnd(t *testing.T, m api.Motion, p, v api.Vec) {
	t.Helper()
	gotP, gotV := flight.End(m)
	expect(t, gotP, p, "the place of End of", m)
	expect(t, gotV, v, "the velocity of End of", m)
}

// P10.1: End, of written flights.
func TestEndOfExamples(t *testing.T) {
	expectEnd(t, fly(0, 0, 16, 0, 0, -4), vec(16, -4), vec(16, -8))
	expectEnd(t, api.Motion{}, vec(0, 0), vec(0, 0))
	expectEnd(t, fly(-7, 9, 0, 0, 0, 0), vec(-7, 9), vec(0, 0))
	expectEnd(t, fly(100, 200, -30, 40, 5, -6), vec(75, 234), vec(-20, 28))
	expectEnd(t, fly(0, 0, 3, -3, -3, 3), vec(0, 0), vec(-3, 3))
	expectEnd(t, fly(place, -place, velocity, -velocity, half, -half), vec(place+velocity+half, -place-velocity-half), vec(velocity+2*half, -velocity-2*half))
	expectEnd(t, fly(-place, place, velocity, -velocity, -half, half), vec(velocity-half-place, place-velocity+half), vec(velocity-2*half, 2*half-velocity))
}

// P10.1: End, with each combination of signs and zeros.
func TestEndOfAllSigns(t *testing.T) {
	for k := range 3 * 3 * 3 * 3 * 3 * 3 {
		var m api.Motion
		sizes := []int{1000, 2000, 30, 50, 7, 9}
		for i, c := range components(&m) {
			*c.n = sizes[i] * (k%3 - 1)
			k /= 3
		}
		expectEnd(t, m, vec(m.P.X+m.V.X+m.H.X, m.P.Y+m.V.Y+m.H.Y), vec(m.V.X+2*m.H.X, m.V.Y+2*m.H.Y))
	}
}

// coordinate is 256 times p + v t + h t^2 at the time j / 16.
func coordinate(p, v, h, j int) int {
	t := big.NewRat(int64(j), 16)
	s := new(big.Rat).Mul(big.NewRat(int64(h), 1), t)
	s.Add(s, big.NewRat(int64(v), 1)).Mul(s, t).Add(s, big.NewRat(int64(p), 1)).Mul(s, big.NewRat(256, 1))
	return int(s.Num().Int64()) // its denominator is 1
}

// expectAt checks At for all j.
func expectAt(t *testing.T, m api.Motion) {
	t.Helper()
	for j := range 17 {
		expect(t, flight.At(m, j), vec(coordinate(m.P.X, m.V.X, m.H.X, j), coordinate(m.P.Y, m.V.Y, m.H.Y, j)), "At of", m, j)
	}
}

// P10.1: At, of written flights, at odd and even j.
func TestAtOfExamples(t *testing.T) {
	expect(t, flight.At(fly(0, 0, 16, 0, 0, -4), 8), vec(2048, -256), "At in the middle of the chapter's flight")
	m := fly(-5, 3, 7, -9, -2, 1)
	for j, want := range []api.Vec{
		{X: -1280, Y: 768}, {X: -1170, Y: 625}, {X: -1064, Y: 484}, {X: -962, Y: 345}, {X: -864, Y: 208}, {X: -770, Y: 73}, {X: -680, Y: -60}, {X: -594, Y: -191}, {X: -512, Y: -320},
		{X: -434, Y: -447}, {X: -360, Y: -572}, {X: -290, Y: -695}, {X: -224, Y: -816}, {X: -162, Y: -935}, {X: -104, Y: -1052}, {X: -50, Y: -1167}, {X: 0, Y: -1280},
	} {
		expect(t, flight.At(m, j), want, "At of", m, j)
	}
	// These vectors are not small.
	expect(t, flight.At(fly(place, -place, velocity, -velocity, half, -half), 16), vec(256*(place+velocity+half), -256*(place+velocity+half)), "At of a great flight")
	expect(t, flight.At(fly(place, -place, 0, 0, 0, 0), 5), vec(1<<31, -1<<31), "At of a ball far away")
}

// P10.1: At, compared with the position in rational numbers.
func TestAt(t *testing.T) {
	for _, m := range bases() {
		expectAt(t, m)
		for i, c := range components(&m) { // each component for itself
			var one api.Motion
			*components(&one)[i].n = *c.n
			expectAt(t, one)
		}
	}
	r := rand.New(rand.NewPCG(1, 10))
	for range 3000 {
		expectAt(t, randomMotion(r))
	}
}

// P10.1: At is the zero vector for a j that is not from 0 to 16.
func TestAtOtherTimes(t *testing.T) {
	for _, m := range bases() {
		for _, j := range []int{-1, -2, -8, -16, 17, 18, 24, 32, 1 << 31, 1 << 32, 1<<32 + 8, -1 << 32, 1 << 62, 1<<62 + 8, math.MaxInt, math.MaxInt - 7, -math.MaxInt, math.MinInt, math.MinInt + 8} {
			expect(t, flight.At(m, j), api.Vec{}, "At of", m, j)
		}
	}
}

// P10.1: Stay, at the ends of the range and beyond them, in each component.
func TestStay(t *testing.T) {
	for _, n := range []int{0, 1, -1, 500, place - 1, 1 - place, place, -place} {
		for _, o := range []int{0, -3, place, -place} {
			for _, p := range []api.Vec{vec(n, o), vec(o, n)} {
				m := flight.Stay(p)
				expect(t, m, api.Motion{P: p}, "Stay of", p)
				expectEnd(t, m, p, vec(0, 0))
				expectBox(t, m, p, p)
				expectAt(t, m)
			}
		}
	}
	for _, n := range beyond(place) {
		for _, o := range []int{0, -3, place, -place, n} {
			expect(t, flight.Stay(vec(n, o)), api.Motion{}, "Stay of", n, o)
			expect(t, flight.Stay(vec(o, n)), api.Motion{}, "Stay of", o, n)
		}
	}
}
