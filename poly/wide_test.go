package poly

import (
	"math/big"
	"math/rand/v2"
	"testing"

	"pinball/api"
	"pinball/integer"
)

// worth is what a wide stands for, by its definition.
func worth(x wide) *big.Int {
	v := new(big.Int)
	for i := len(x) - 1; i >= 0; i-- {
		s, _ := integer.Text(x[i])
		d, _ := new(big.Int).SetString(s, 10)
		v.Add(v.Lsh(v, digitBits), d)
	}
	return v
}

// tidy reports whether x has the form that the type describes.
func tidy(x wide) bool {
	for i, d := range x {
		last := i == len(x)-1
		if integer.Bits(d) > digitBits || integer.Sign(d) < 0 && !last || integer.Sign(d) == 0 && last {
			return false
		}
	}
	return true
}

// extreme is a number of up to n digits that is not negative. Digits where
// carries begin or estimates fail are frequent in it.
func extreme(r *rand.Rand, n int) wide {
	base, _ := integer.Shift(integer.Of(1), digitBits)
	half, _ := integer.Shift(base, -1)
	d := make(digits, r.IntN(n+1))
	for i := range d {
		switch r.IntN(6) {
		case 0:
		case 1:
			d[i] = integer.Of(1)
		case 2:
			d[i], _ = integer.Sub(base, integer.Of(1))
		case 3:
			d[i] = half
		case 4:
			d[i], _ = integer.Sub(half, integer.Of(1))
		default:
			d[i], _ = integer.Shift(integer.Of(int(r.Uint64()>>1)), r.IntN(digitBits-64))
		}
	}
	return d.settled()
}

// checkWide compares a number with that of the standard library.
func checkWide(t *testing.T, what string, x wide, want *big.Int) {
	t.Helper()
	if !tidy(x) || worth(x).Cmp(want) != 0 {
		t.Fatalf("%s: %v, want %v", what, worth(x), want)
	}
}

// P2.2, P2.3, P2.5 rest on numbers of any size: their sums and products.
func TestWideSums(t *testing.T) {
	r := rand.New(rand.NewPCG(1, 1))
	for range 800 {
		x, y, z := extreme(r, 6), extreme(r, 6), extreme(r, 6)
		if r.IntN(2) == 0 {
			x = x.negative()
		}
		if r.IntN(2) == 0 {
			y = y.negative()
		}
		v, w, u := worth(x), worth(y), worth(z)
		checkWide(t, "negative", x.negative(), new(big.Int).Neg(v))
		checkWide(t, "absolute", x.absolute(), new(big.Int).Abs(v))
		checkWide(t, "times", x.times(y), new(big.Int).Mul(v, w))
		sum := x.raised(0).plus(y, z).settled()
		checkWide(t, "plus", sum, new(big.Int).Add(v, new(big.Int).Mul(w, u)))
		n := r.IntN(3 * digitBits)
		checkWide(t, "raised", x.raised(n).settled(), new(big.Int).Lsh(v, uint(n)))
		if x.sign() != v.Sign() || x.absolute().bits() != v.BitLen() {
			t.Fatal("sign, bits:", v)
		}
		a, e := x.narrow()
		if (e == api.OK) != (v.BitLen() <= maxBits) {
			t.Fatal("narrow:", v, e)
		}
		if e == api.OK {
			checkWide(t, "narrow and widen", widen(a), v)
		}
	}
}

// P2.5 rests on their quotients and divisors.
func TestWideQuotients(t *testing.T) {
	r := rand.New(rand.NewPCG(2, 2))
	for range 800 {
		x, y := extreme(r, 7), extreme(r, 4)
		if y.sign() == 0 {
			continue
		}
		if r.IntN(3) == 0 { // next to a multiple
			x = x.times(y).minus(integer.Of(r.IntN(3)-1), wide{integer.Of(1)}).absolute()
		}
		v, w := worth(x), worth(y)
		q, rest := x.over(y)
		wantQ, wantR := new(big.Int).QuoRem(v, w, new(big.Int))
		checkWide(t, "quotient", q, wantQ)
		checkWide(t, "remainder", rest, wantR)
		checkWide(t, "share", x.times(y).share(y), v)
		checkWide(t, "share of a negative number", x.times(y).negative().share(y), new(big.Int).Neg(v))
	}
}

// The estimate of a digit looks at two digits of y. Here the next one is as great
// as can be, and x is just below a multiple: the estimate is one too great.
func TestWideEstimate(t *testing.T) {
	one := big.NewInt(1)
	base := new(big.Int).Lsh(one, digitBits)
	top := new(big.Int).Sub(base, one)
	y := new(big.Int).Add(new(big.Int).Mul(base, base), top)
	for _, q := range []*big.Int{top, new(big.Int).Rsh(base, 1), big.NewInt(2), one} {
		v := new(big.Int).Mul(y, q)
		v.Sub(v, one)
		wantQ, wantR := new(big.Int).QuoRem(v, y, new(big.Int))
		got, rest := wideOf(t, v).over(wideOf(t, y))
		checkWide(t, "quotient", got, wantQ)
		checkWide(t, "remainder", rest, wantR)
	}
}

// wideOf is the wide of a number that is not negative.
func wideOf(t *testing.T, v *big.Int) wide {
	var d digits
	mask := new(big.Int).Sub(new(big.Int).Lsh(big.NewInt(1), digitBits), big.NewInt(1))
	for rest := new(big.Int).Set(v); rest.Sign() > 0; rest.Rsh(rest, digitBits) {
		a, e := integer.Parse(new(big.Int).And(rest, mask).String())
		if e != api.OK {
			t.Fatal("the test's digit:", e)
		}
		d = append(d, a)
	}
	return d.settled()
}

// P2.5: common divisors, found and given up.
func TestWideCommon(t *testing.T) {
	r := rand.New(rand.NewPCG(3, 3))
	for range 60 {
		g, x, y := extreme(r, 6), extreme(r, 2), extreme(r, 2)
		x, y = x.times(g), y.times(g)
		want := new(big.Int).GCD(nil, nil, worth(x), worth(y))
		got, ok := common(x, y, want.BitLen())
		if !ok {
			t.Fatal("common gives up:", want.BitLen())
		}
		checkWide(t, "common", got, want)
		if got, ok = common(x, y, want.BitLen()+1); ok {
			checkWide(t, "common that need not be found", got, want)
		}
	}
}
