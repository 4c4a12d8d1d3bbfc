package sturm_test

import (
	"math/big"
	"math/rand/v2"
	"testing"

	"pinball/api"
	"pinball/sturm"
)

// P3.1: Cmp, for all forms of numbers.
func TestCmp(t *testing.T) {
	for _, x := range goodDyadics() {
		for _, y := range goodDyadics() {
			want := rational(x).Cmp(rational(y))
			if c, e := sturm.Cmp(x, y); e != api.OK || c != want {
				t.Error("Cmp:", c, e, "want", want, "for", x, y)
			}
		}
	}
	for _, c := range []struct {
		x, y api.Dyadic
		want int
	}{
		{dy(1, 1), dy(2, 2), 0}, {dy(-1, 1), dy(-2, 2), 0}, {dy(-1, 1), dy(-1, 2), -1}, {dy(0, 4), dy(0, 0), 0},
		{dyadic(ones(most), api.MaxShift), dyadic(ones(most), api.MaxShift-1), -1},
		{dyadic(ones(most), 0), dyadic(bit(most-1), 0), 1},
		{dyadic(bit(most-1), api.MaxShift), dyadic(bit(most-1-api.MaxShift), 0), 0},
		{dyadic(plus(bit(most-1), 1), api.MaxShift), dyadic(bit(most-1-api.MaxShift), 0), 1},
	} {
		if n, e := sturm.Cmp(c.x, c.y); e != api.OK || n != c.want {
			t.Error("Cmp:", n, e, "want", c.want)
		}
		if n, e := sturm.Cmp(c.y, c.x); e != api.OK || n != -c.want {
			t.Error("Cmp, exchanged:", n, e, "want", -c.want)
		}
	}
}

// checkMiddle compares Middle with the exact middle, where that is valid.
func checkMiddle(t *testing.T, x, y api.Dyadic) {
	t.Helper()
	want := new(big.Rat).Add(rational(x), rational(y))
	want.Quo(want, big.NewRat(2, 1))
	// In lowest terms, the denominator is the power of 2 of the reduced form.
	e := want.Denom().BitLen() - 1
	m, f := sturm.Middle(x, y)
	if e > api.MaxShift || want.Num().BitLen() > most {
		if f != api.ErrSize || m.E != 0 || len(m.N.L) != 0 || m.N.Neg {
			t.Error("Middle: want ErrSize and nothing else, have", f, m, "for", x, y)
		}
		return
	}
	if f != api.OK || m.E != e || !same(api.Poly{m.N}, model{want.Num()}) && want.Sign() != 0 {
		t.Error("Middle:", f, m, "want", want, "for", x, y)
	}
	if want.Sign() == 0 && (len(m.N.L) != 0 || m.N.Neg) {
		t.Error("Middle is a 0 that is not canonical:", m)
	}
}

// P3.1: Middle, for all forms of numbers.
func TestMiddle(t *testing.T) {
	for _, x := range goodDyadics() {
		for _, y := range goodDyadics() {
			checkMiddle(t, x, y)
		}
	}
	r := rand.New(rand.NewPCG(2, 2))
	for range 2000 {
		n := 1 + r.IntN(100)
		checkMiddle(t, dyadic(randomNumber(r, n), r.IntN(20)), dyadic(randomNumber(r, n), r.IntN(20)))
	}
	m, e := sturm.Middle(dy(1, 0), dy(2, 0))
	if e != api.OK || m.E != 1 || !same(api.Poly{m.N}, ints(3)) {
		t.Error("Middle of 1 and 2:", m, e)
	}
	m, e = sturm.Middle(dy(12, 3), dy(10, 2)) // 3/2 and 5/2
	if e != api.OK || m.E != 0 || !same(api.Poly{m.N}, ints(2)) {
		t.Error("Middle of 3/2 and 5/2:", m, e)
	}
}

// P3.1: Middle where the result is only just valid, and where it is not.
func TestMiddleAtTheLimits(t *testing.T) {
	for _, c := range []struct {
		x, y api.Dyadic
		want api.Errno
	}{
		{dy(0, 0), dy(1, api.MaxShift-1), api.OK},
		{dy(0, 0), dy(1, api.MaxShift), api.ErrSize},
		{dy(0, 0), dy(2, api.MaxShift), api.OK},
		{dy(-1, api.MaxShift), dy(0, api.MaxShift), api.ErrSize},
		{dy(1, api.MaxShift), dy(1, api.MaxShift), api.OK},
		{dy(1, api.MaxShift), dy(-1, api.MaxShift), api.OK},
		{dy(1, api.MaxShift), dy(2, api.MaxShift), api.ErrSize},
		{dy(5, api.MaxShift), dy(-7, api.MaxShift), api.OK},
		{dyadic(ones(most), 0), dyadic(ones(most), 0), api.OK},
		{dyadic(ones(most), 0), dyadic(plus(ones(most), -2), 0), api.OK},
		{dyadic(ones(most), 0), dyadic(plus(ones(most), -1), 0), api.ErrSize},
		{dyadic(minus(ones(most)), 0), dyadic(minus(ones(most)), 0), api.OK},
		{dyadic(minus(ones(most)), 0), dyadic(plus(minus(ones(most)), 1), 0), api.ErrSize},
		{dyadic(ones(most), api.MaxShift), dyadic(ones(most), api.MaxShift), api.OK},
		{dyadic(ones(most), api.MaxShift), dyadic(plus(ones(most), -2), api.MaxShift), api.OK},
		// (2^8191 - 1/2) / 2 and (2^8191 + 1/2) / 2
		{dyadic(bit(most-1), 0), dy(-1, 1), api.OK},
		{dyadic(minus(bit(most-1)), 0), dy(1, 1), api.OK},
		{dyadic(bit(most-1), 0), dy(1, 1), api.ErrSize},
		{dyadic(minus(bit(most-1)), 0), dy(-1, 1), api.ErrSize},
		// the great numbers cancel, or have factors 2
		{dyadic(ones(most), 0), dyadic(minus(ones(most)), 1), api.OK},
		{dyadic(ones(most), 0), dyadic(ones(most), 1), api.ErrSize},
		{dyadic(ones(most-api.MaxShift), 0), dyadic(minus(ones(most)), api.MaxShift), api.ErrSize},
		{dyadic(ones(most-api.MaxShift), 0), dyadic(minus(plus(ones(most), -1)), api.MaxShift), api.OK},
		{dyadic(bit(most-1), 0), dyadic(bit(most-1), api.MaxShift), api.OK},
		{dyadic(bit(most-1), 0), dy(1, 0), api.OK},
	} {
		for range 2 {
			checkMiddle(t, c.x, c.y)
			_, e := sturm.Middle(c.x, c.y)
			expectError(t, "Middle", e, c.want)
			c.x, c.y = roughDyadic(c.y), roughDyadic(c.x)
		}
	}
}

// P3.1: arguments that are not valid go before results that are not.
func TestDyadicErrors(t *testing.T) {
	for _, x := range badDyadics() {
		for _, y := range append(goodDyadics(), badDyadics()...) {
			c, e := sturm.Cmp(x, y)
			expectError(t, "Cmp", e, api.ErrArg)
			d, e := sturm.Cmp(y, x)
			expectError(t, "Cmp, exchanged", e, api.ErrArg)
			m, e := sturm.Middle(x, y)
			expectError(t, "Middle", e, api.ErrArg)
			n, e := sturm.Middle(y, x)
			expectError(t, "Middle, exchanged", e, api.ErrArg)
			if c != 0 || d != 0 || m.E != 0 || len(m.N.L) != 0 || m.N.Neg || n.E != 0 || len(n.N.L) != 0 || n.N.Neg {
				t.Error("a result beside an error:", c, d, m, n)
			}
		}
	}
}
