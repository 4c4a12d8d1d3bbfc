package poly_test

import (
	"math"
	"math/big"
	"math/rand/v2"
	"testing"

	"pinball/api"
	"pinball/poly"
)

// dyadic is the number n / 2^e.
func dyadic(n *big.Int, e int) api.Dyadic {
	return api.Dyadic{N: number(n), E: e}
}

// signAt is the sign of m at n / 2^e, by its definition.
func signAt(m model, n *big.Int, e int) int {
	sum := new(big.Rat)
	x := new(big.Rat).SetFrac(n, bit(e))
	for i := len(m) - 1; i >= 0; i-- {
		sum.Mul(sum, x)
		sum.Add(sum, new(big.Rat).SetInt(m[i]))
	}
	return sum.Sign()
}

// checkSign compares Sign with the sign of the exact value.
func checkSign(t *testing.T, m model, n *big.Int, e int) {
	t.Helper()
	want := signAt(m, n, e)
	x := dyadic(n, e)
	for _, p := range []api.Poly{m.poly(), rough(m.poly())} {
		if s, f := poly.Sign(p, x); f != api.OK || s != want {
			t.Errorf("Sign of %v at %v / 2^%d: %d, error %d, want %d", m, n, e, s, f, want)
		}
		x.N.L = append(x.N.L, 0, 0)
	}
}

// checkSignError checks an error of Sign, and that the sign beside it is 0.
func checkSignError(t *testing.T, p api.Poly, x api.Dyadic, want api.Errno) {
	t.Helper()
	if s, e := poly.Sign(p, x); s != 0 || e != want {
		t.Errorf("Sign of degree %d at 2^-%d: %d, error %d, want error %d", poly.Degree(p), x.E, s, e, want)
	}
}

// P2.3: Sign, at reduced numbers and at others.
func TestSign(t *testing.T) {
	r := rand.New(rand.NewPCG(3, 3))
	for _, m := range models() {
		for _, n := range []int64{0, 1, -1, 2, -3, 4, 1 << 40, -12345678901} {
			for _, e := range []int{0, 1, 2, 5, 33, 200} {
				checkSign(t, m, big.NewInt(n), e)
			}
		}
		for range 10 {
			checkSign(t, m, randomNumber(r, 90), r.IntN(90))
		}
	}
}

// P2.3: Sign at roots, and next to them.
func TestSignAtRoots(t *testing.T) {
	r := rand.New(rand.NewPCG(4, 4))
	one := big.NewInt(1)
	for i := range 200 {
		n, e := randomNumber(r, 1+i), r.IntN(1+i/2)
		root := model{minus(n), bit(e)}
		m := root.by(fullModel(r, i%6, 20+i))
		checkSign(t, m, n, e)
		checkSign(t, m.by(root), n, e)
		if s, f := poly.Sign(m.poly(), dyadic(n, e)); s != 0 || f != api.OK {
			t.Error("Sign at a root:", s, f)
		}
		checkSign(t, m, new(big.Int).Add(n, one), e)
		checkSign(t, m, new(big.Int).Sub(n, one), e)
	}
}

// P2.3: constants have a sign at every valid number.
func TestSignOfConstants(t *testing.T) {
	for _, n := range []*big.Int{new(big.Int), big.NewInt(-1), ones(most), minus(ones(most))} {
		for _, e := range []int{0, 1, api.MaxShift - 1, api.MaxShift} {
			for _, c := range []model{{}, ints(7), ints(-7), {ones(most)}, {minus(ones(most))}} {
				checkSign(t, c, n, e)
			}
		}
	}
}

// P2.3: numbers as long as the degree permits, and by one digit or one exponent longer.
func TestSignLimit(t *testing.T) {
	r := rand.New(rand.NewPCG(5, 5))
	for degree := 1; degree <= api.MaxDegree; degree++ {
		m := fullModel(r, degree, 100)
		room := most / degree
		for _, e := range []int{0, 1, room / 2, room - 1, room} {
			if e > api.MaxShift {
				e = api.MaxShift
			}
			checkSign(t, m, ones(room-e), e)
			checkSign(t, m, minus(ones(room-e)), e)
			checkSignError(t, m.poly(), dyadic(bit(room-e), e), api.ErrSize)
			checkSignError(t, rough(m.poly()), dyadic(minus(bit(room-e)), e), api.ErrSize)
			if e < api.MaxShift {
				checkSignError(t, m.poly(), dyadic(ones(room-e), e+1), api.ErrSize)
			}
		}
	}
	checkSign(t, ints(3, 0, -1), new(big.Int), api.MaxShift)
	checkSignError(t, poly.Of(3, 0, 0, 1), dyadic(new(big.Int), api.MaxShift), api.ErrSize)
	checkSignError(t, poly.Of(3, 0, 1), dyadic(big.NewInt(1), api.MaxShift), api.ErrSize)
	checkSignError(t, poly.Of(0, 1), dyadic(bit(most-api.MaxShift), api.MaxShift), api.ErrSize)
	// Not reduced, 1 / 2^0 is too long.
	checkSign(t, ints(-1, 1, 0, 0, 1), bit(1024), 1023)
	checkSignError(t, poly.Of(-1, 1, 0, 0, 1), dyadic(bit(1024), 1024), api.ErrSize)
}

// P2.3: no number on the way is too large.
func TestSignOfGreatElements(t *testing.T) {
	r := rand.New(rand.NewPCG(6, 6))
	for degree := 1; degree <= api.MaxDegree; degree++ {
		room := most / degree
		for _, e := range []int{0, room / 3, min(room-1, api.MaxShift)} {
			checkSign(t, fullModel(r, degree, most), ones(room-e), e)
			n := ones(room - e - 1)
			m := model{minus(n), bit(e)}.by(fullModel(r, degree-1, max(1, most-room-8)))
			if s, f := poly.Sign(m.poly(), dyadic(n, e)); s != 0 || f != api.OK {
				t.Error("Sign at a root:", degree, e, s, f)
			}
			checkSign(t, m.plus(ints(1)), n, e)
			checkSign(t, m.plus(ints(-1)), n, e)
		}
	}
	checkSign(t, model{minus(ones(most)), ones(most)}, big.NewInt(1), 0)
	checkSign(t, model{minus(ones(most)), big.NewInt(1)}, ones(most), 0)
	checkSign(t, model{minus(ones(most)), big.NewInt(1)}, new(big.Int).Sub(ones(most), big.NewInt(1)), 0)
}

// P2.3: the errors, in their order.
func TestSignErrors(t *testing.T) {
	for _, x := range []api.Dyadic{{}, dyadic(bit(most), 0), {E: -1}, {E: api.MaxShift + 1}, dyadic(ones(most), 9)} {
		for _, p := range largePolys() {
			checkSignError(t, p, x, api.ErrSize)
		}
	}
	for _, p := range []api.Poly{nil, poly.Of(5), poly.Of(1, 2)} {
		for _, e := range []int{-1, 0, 1, api.MaxShift + 1, math.MinInt} {
			checkSignError(t, p, dyadic(bit(most), e), api.ErrSize)
			checkSignError(t, p, dyadic(minus(ones(most+1)), e), api.ErrSize)
		}
	}
	for _, m := range append(models(), limitModels()...) {
		for _, e := range []int{-1, -2, math.MinInt, api.MaxShift + 1, math.MaxInt} {
			for _, n := range []*big.Int{new(big.Int), big.NewInt(5), minus(ones(most))} {
				checkSignError(t, m.poly(), dyadic(n, e), api.ErrArg)
			}
		}
	}
}
