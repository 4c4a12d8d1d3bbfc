package flight_test

import (
	"math/big"
	"math/rand/v2"
	"testing"

	"pinball/api"
	"pinball/flight"
)

// expectBox checks Box.
func expectBox(t *testing.T, m api.Motion, lo, hi api.Vec) {
	t.Helper()
	gotLo, gotHi := flight.Box(m)
	expect(t, gotLo, lo, "the low corner of Box of", m)
	expect(t, gotHi, hi, "the high corner of Box of", m)
}

// way is one component of a flight, with what Box returns for it.
type way struct{ p, v, h, lo, hi int }

// ways are written ones. They open upward or are straight; upside has the others.
func ways() []way {
	return []way{
		{0, 0, 0, 0, 0}, // no motion
		{5, 0, 0, 5, 5},
		{-5, 0, 0, -5, -5},
		{place, 0, 0, place, place},
		{5, 3, 0, 5, 8}, // no acceleration
		{5, -3, 0, 2, 5},
		{-1, 3, 0, -1, 2},
		{-place, -velocity, 0, -place - velocity, -place},
		{0, 1, 1, 0, 2}, // the vertex before the tick
		{-9, 5, 2, -9, -2},
		{place, velocity, half, place, place + velocity + half},
		{5, 0, 3, 5, 8}, // at its beginning
		{-5, 0, 3, -5, -2},
		{-place, 0, half, -place, half - place},
		{0, -4, 4, -1, 0}, // within it, at a whole number
		{-3, -4, 4, -4, -3},
		{10, -6, 9, 9, 13},
		{10, -12, 9, 6, 10},
		{place, -half, half, place - half/4, place},
		{-place, -half, half, -place - half/4, -place},
		{0, -1, 1, -1, 0}, // within it, between whole numbers: -1/4
		{7, -1, 1, 6, 7},  // 27/4
		{-7, -1, 1, -8, -7},
		{0, -3, 2, -2, 0}, // -9/8, but -1 at the end
		{10, -6, 4, 7, 10},
		{0, -3, 5, -1, 2}, // -9/20
		{0, -1, half, -1, half - 1},
		{1, -2*half + 1, half, 1 - half, 1}, // just ahead of the end
		{0, -2 * half, half, -half, 0},      // at the end
		{0, -2, 1, -1, 0},
		{-6, -8, 4, -10, -6},
		{0, -2*half - 1, half, -half - 1, 0}, // behind it
		{0, -3, 1, -2, 0},
		{20, -100, 30, -50, 20},
		{place, -velocity, half, place - velocity + half, place},
	}
}

// upside is w upside down.
func upside(w way) way {
	return way{-w.p, -w.v, -w.h, -w.hi, -w.lo}
}

// P10.2: Box of all pairs of written ways, one in X and one in Y.
func TestBoxOfExamples(t *testing.T) {
	l := ways()
	for _, w := range ways() {
		l = append(l, upside(w))
	}
	for _, x := range l {
		for _, y := range l {
			expectBox(t, fly(x.p, y.p, x.v, y.v, x.h, y.h), vec(x.lo, y.lo), vec(x.hi, y.hi))
		}
	}
	expectBox(t, fly(0, 0, 16, 0, 0, -4), vec(0, -4), vec(16, 0))
}

// floor is the greatest integer that is at most r.
func floor(r *big.Rat) int {
	return int(new(big.Int).Div(r.Num(), r.Denom()).Int64()) // the denominator is positive, so this rounds down
}

// ceiling is the least integer that is at least r.
func ceiling(r *big.Rat) int {
	return -floor(new(big.Rat).Neg(r))
}

// bounds are the floor of the least and the ceiling of the greatest of the values of
// p + v t + h t^2 at the times 0 and 1 and, if it is between them, at the vertex.
func bounds(p, v, h int) (lo, hi int) {
	times := []*big.Rat{big.NewRat(0, 1), big.NewRat(1, 1)}
	if h != 0 {
		if vertex := big.NewRat(int64(-v), int64(2*h)); vertex.Sign() >= 0 && vertex.Cmp(times[1]) <= 0 {
			times = append(times, vertex)
		}
	}
	var least, greatest *big.Rat
	for _, t := range times {
		s := new(big.Rat).Mul(big.NewRat(int64(h), 1), t)
		s.Add(s, big.NewRat(int64(v), 1)).Mul(s, t).Add(s, big.NewRat(int64(p), 1))
		if least == nil || s.Cmp(least) < 0 {
			least = s
		}
		if greatest == nil || s.Cmp(greatest) > 0 {
			greatest = s
		}
	}
	return floor(least), ceiling(greatest)
}

// P10.2: Box, compared with bounds in rational numbers.
func TestBoxOfRandomMotions(t *testing.T) {
	r := rand.New(rand.NewPCG(3, 10))
	for range 30000 {
		m := randomMotion(r)
		left, right := bounds(m.P.X, m.V.X, m.H.X)
		low, high := bounds(m.P.Y, m.V.Y, m.H.Y)
		expectBox(t, m, vec(left, low), vec(right, high))
	}
}

// P10.2: Box of all short flights along one axis, compared with all times that are multiples
// of 1 / 2 h, of which the vertex is one.
func TestBoxOfShortMotions(t *testing.T) {
	for p := -2; p <= 2; p++ {
		for v := -26; v <= 26; v++ {
			for h := -11; h <= 11; h++ {
				n := 2 * max(h, -h, 1)
				lo, hi := p, p
				for i := range n + 1 {
					s := p*n*n + v*n*i + h*i*i // n^2 times the coordinate
					for lo*n*n > s {
						lo--
					}
					for hi*n*n < s {
						hi++
					}
				}
				expectBox(t, fly(p, 0, v, 0, h, 0), vec(lo, 0), vec(hi, 0))
				expectBox(t, fly(0, p, 0, v, 0, h), vec(0, lo), vec(0, hi))
			}
		}
	}
}
