package entry_test

import (
	"math/big"
	"math/rand/v2"
	"testing"

	"pinball/api"
	"pinball/entry"
	"pinball/poly"
	"pinball/root"
)

// expectSixteenth checks Sixteenth of r.
func expectSixteenth(t *testing.T, r api.Root, want int) {
	t.Helper()
	if n, e := entry.Sixteenth(r); e != api.OK || n != want {
		t.Errorf("Sixteenth of %v: %d, error %d, want %d", r, n, e, want)
	}
}

// ofLine is the Root n / d, which is from lo to hi, with the polynomial d t - n and the interval from lo - 1 to hi.
func ofLine(n, d *big.Int, lo, hi int) api.Root {
	return api.Root{P: line(n, d), Lo: dy(lo-1, 0), Hi: dy(hi, 0)}
}

// P5.3: Sixteenth at sixteenths, just below and just above them, also of values below 0 and at the ends of the range.
func TestSixteenth(t *testing.T) {
	const end = 1 << 31 // a sixteenth of this is the end of the range
	numbers := []int{0, 1, -1, 2, 7, 8, 15, 16, 17, -15, -16, -17, 1000, -1000, 1<<30 + 5, -1<<30 - 5, end - 1, 1 - end, end, -end}
	for k := -40; k <= 40; k++ {
		numbers = append(numbers, k)
	}
	for _, k := range numbers {
		v := big.NewInt(int64(k))
		expectSixteenth(t, point(t, k, 4), k)
		expectSixteenth(t, point(t, k*64, 10), k)
		expectSixteenth(t, ofLine(v, big.NewInt(16), -end, end), k)
		for _, e := range []int{1, 30, 150} {
			n := new(big.Int).Lsh(v, uint(e))
			d := bit(e + 4)
			if k > -end {
				expectSixteenth(t, ofLine(plus(n, -1), d, -end, end), k-1)
			}
			if k < end {
				expectSixteenth(t, ofLine(plus(n, 1), d, -end, end), k)
				expectSixteenth(t, ofLine(plus(new(big.Int).Mul(n, big.NewInt(3)), 2), new(big.Int).Mul(d, big.NewInt(3)), -end, end), k)
			}
		}
	}
	side := api.Root{P: poly.Of(-2, 0, 1), Lo: dy(0, 0), Hi: dy(2, 0)}
	expectSixteenth(t, side, 22) // 22.6..
	side.Lo, side.Hi = dy(-2, 0), dy(0, 0)
	expectSixteenth(t, side, -23)
	expectSixteenth(t, api.Root{P: poly.Of(-4, 0, 1), Lo: dy(0, 0), Hi: dy(9, 0)}, 32)
	expectSixteenth(t, api.Root{P: poly.Of(9, -6, 1), Lo: dy(0, 0), Hi: dy(9, 0)}, 48) // touches 0
	expectSixteenth(t, api.Root{P: rough(poly.Of(-2, 0, 1)), Lo: dy(0, 3), Hi: dy(16, 3)}, 22)
}

// P5.3: Sixteenth of what First returns is from 0 to 15, and next to the value.
func TestSixteenthOfFirst(t *testing.T) {
	r := rand.New(rand.NewPCG(5, 5))
	seen := map[int]bool{}
	for range 600 {
		first, found, e := entry.First(randomList(r))
		if e != api.OK || !found {
			continue
		}
		n, e := entry.Sixteenth(first)
		if e != api.OK || n < 0 || n > 15 || order(t, first, point(t, n, 4)) < 0 || order(t, first, point(t, n+1, 4)) >= 0 {
			t.Error("Sixteenth:", n, e, first)
		}
		seen[n] = true
	}
	if len(seen) < 8 {
		t.Error("few of the sixteenths:", seen)
	}
}

// P5.3: Roots that are not valid; and R1 for values that are far outside of the range.
func TestSixteenthErrors(t *testing.T) {
	square := poly.Of(-2, 0, 1)
	long := api.Dyadic{N: number(bit(1024))}
	for i, r := range []api.Root{
		{}, {P: poly.Of(7), Lo: dy(0, 0), Hi: dy(1, 0)}, {P: rough(nil), Hi: dy(1, 0)}, {P: square, Lo: dy(2, 0), Hi: dy(1, 0)},
		{P: square, Lo: dy(-2, 0), Hi: dy(2, 0)}, {P: square, Lo: dy(2, 0), Hi: dy(3, 0)}, {P: square, Lo: dy(1, 0), Hi: dy(1, 0)},
		{P: poly.Of(-1, 1), Lo: dy(1, 0), Hi: dy(2, 0)}, {P: poly.Of(0, 1), Lo: dy(-1, -1), Hi: dy(1, 0)}, {P: poly.Of(0, 1), Lo: dy(-1, 0), Hi: dy(1, 1025)},
		{P: poly.Of(0, 1), Lo: dy(-1, 0), Hi: long}, {P: append(make(api.Poly, 17), number(bit(0))), Lo: dy(-1, 0), Hi: dy(1, 0)},
	} {
		if root.Valid(r) {
			t.Error("the test's Root is valid:", i)
		}
		if n, e := entry.Sixteenth(r); e != api.ErrArg || n != 0 {
			t.Error("Sixteenth of no Root:", i, n, e)
		}
	}
	expectSixteenth(t, point(t, -1<<50-1, 5), -1<<49-1)
	for _, v := range []*big.Int{bit(60), minus(bit(60)), bit(900), minus(bit(900))} {
		r, e := root.Of(api.Dyadic{N: number(v)})
		if e != api.OK {
			t.Fatal("Of:", e)
		}
		if n, e := entry.Sixteenth(r); e != api.ErrArg || n != 0 {
			t.Error("Sixteenth of a great value:", v, n, e)
		}
	}
}
