package wide

import (
	"math/big"
	"math/rand/v2"
	"testing"

	"pinball/api"
	"pinball/integer"
)

// worth is what an Int stands for, by its definition.
func worth(x Int) *big.Int {
	v := new(big.Int)
	for i := len(x) - 1; i >= 0; i-- {
		s, _ := integer.Text(x[i])
		d, _ := new(big.Int).SetString(s, 10)
		v.Add(v.Lsh(v, digitBits), d)
	}
	return v
}

// tidy reports whether x has the form that the type describes.
func tidy(x Int) bool {
	for i, d := range x {
		last := i == len(x)-1
		if integer.Bits(d) > digitBits || integer.Sign(d) < 0 && !last || integer.Sign(d) == 0 && last {
			return false
		}
	}
	return true
}

// extreme is a number of up to n digits that is not negative. Digits where
// carries begin or estimates fail are frequent in it.
func extreme(r *rand.Rand, n int) Int {
	base, _ := integer.Shift(integer.Of(1), digitBits)
	half, _ := integer.Shift(base, -1)
	d := make(digits, r.IntN(n+1))
	for i := range d {
		switch r.IntN(6) {
		case 0:
		case 1:
			d[i] = integer.Of(1)
		case 2:
			d[i], _ = integer.Sub(base, integer.Of(1))
		case 3:
			d[i] = half
		case 4:
			d[i], _ = integer.Sub(half, integer.Of(1))
		default:
			d[i], _ = integer.Shift(integer.Of(int(r.Uint64()>>1)), r.IntN(digitBits-64))
		}
	}
	return d.settled()
}

// check compares a number with that of the standard library.
func check(t *testing.T, what string, x Int, want *big.Int) {
	t.Helper()
	if !tidy(x) || worth(x).Cmp(want) != 0 {
		t.Fatalf("%s: %v, want %v", what, worth(x), want)
	}
}

// P2.2, P2.3, P2.5, P3.1 and P3.4 rest on numbers of any size: their sums and products.
func TestSums(t *testing.T) {
	r := rand.New(rand.NewPCG(1, 1))
	for range 800 {
		x, y, z := extreme(r, 6), extreme(r, 6), extreme(r, 6)
		if r.IntN(2) == 0 {
			x = x.Negative()
		}
		if r.IntN(2) == 0 {
			y = y.Negative()
		}
		v, w, u := worth(x), worth(y), worth(z)
		check(t, "negative", x.Negative(), new(big.Int).Neg(v))
		check(t, "absolute", x.Absolute(), new(big.Int).Abs(v))
		check(t, "times", x.Times(y), new(big.Int).Mul(v, w))
		check(t, "plus", x.Plus(y), new(big.Int).Add(v, w))
		check(t, "minus itself", x.Plus(x.Negative()), new(big.Int))
		sum := x.raised(0).plus(y, z).settled()
		check(t, "plus a product", sum, new(big.Int).Add(v, new(big.Int).Mul(w, u)))
		if x.Sign() != v.Sign() || x.bits() != v.BitLen() {
			t.Fatal("sign, bits:", v)
		}
		a, e := x.Narrow()
		if (e == api.OK) != (v.BitLen() <= maxBits) {
			t.Fatal("narrow:", v, e)
		}
		if e == api.OK {
			check(t, "narrow and widen", Of(a), v)
		}
	}
}

// P2.3, P3.1 and P3.4 rest on their powers, and on factors 2.
func TestPowers(t *testing.T) {
	r := rand.New(rand.NewPCG(4, 4))
	for i := range 400 {
		x := extreme(r, 4)
		if r.IntN(2) == 0 {
			x = x.Negative()
		}
		v := worth(x)
		n := r.IntN(3 * digitBits)
		check(t, "raised", x.Raised(n), new(big.Int).Lsh(v, uint(n)))
		check(t, "raised by nothing", x.Raised(0), v)
		if x.Sign() != 0 {
			zeros := int(v.TrailingZeroBits())
			if x.Zeros() != zeros || x.Raised(n).Zeros() != zeros+n {
				t.Fatal("zeros:", v, n, x.Zeros(), x.Raised(n).Zeros())
			}
		}
		check(t, "power", x.Power(i%5), new(big.Int).Exp(v, big.NewInt(int64(i%5)), nil))
	}
}

// P2.5 rests on their quotients and divisors.
func TestQuotients(t *testing.T) {
	r := rand.New(rand.NewPCG(2, 2))
	for range 800 {
		x, y := extreme(r, 7), extreme(r, 4)
		if y.Sign() == 0 {
			continue
		}
		if r.IntN(3) == 0 { // next to a multiple
			x = x.Times(y).minus(integer.Of(r.IntN(3)-1), Int{integer.Of(1)}).Absolute()
		}
		v, w := worth(x), worth(y)
		q, rest := x.over(y)
		wantQ, wantR := new(big.Int).QuoRem(v, w, new(big.Int))
		check(t, "quotient", q, wantQ)
		check(t, "remainder", rest, wantR)
		check(t, "share", x.Times(y).Share(y), v)
		check(t, "share of a negative number", x.Times(y).Negative().Share(y), new(big.Int).Neg(v))
		check(t, "share by a negative number", x.Times(y).Share(y.Negative()), new(big.Int).Neg(v))
		check(t, "share of negative numbers", x.Times(y).Negative().Share(y.Negative()), v)
	}
}

// The estimate of a digit looks at two digits of y. Here the next one is as great
// as can be, and x is just below a multiple: the estimate is one too great.
func TestEstimate(t *testing.T) {
	one := big.NewInt(1)
	base := new(big.Int).Lsh(one, digitBits)
	top := new(big.Int).Sub(base, one)
	y := new(big.Int).Add(new(big.Int).Mul(base, base), top)
	for _, q := range []*big.Int{top, new(big.Int).Rsh(base, 1), big.NewInt(2), one} {
		v := new(big.Int).Mul(y, q)
		v.Sub(v, one)
		wantQ, wantR := new(big.Int).QuoRem(v, y, new(big.Int))
		got, rest := intOf(t, v).over(intOf(t, y))
		check(t, "quotient", got, wantQ)
		check(t, "remainder", rest, wantR)
	}
}

// intOf is the Int of a number that is not negative.
func intOf(t *testing.T, v *big.Int) Int {
	var d digits
	mask := new(big.Int).Sub(new(big.Int).Lsh(big.NewInt(1), digitBits), big.NewInt(1))
	for rest := new(big.Int).Set(v); rest.Sign() > 0; rest.Rsh(rest, digitBits) {
		a, e := integer.Parse(new(big.Int).And(rest, mask).String())
		if e != api.OK {
			t.Fatal("the test's digit:", e)
		}
		d = append(d, a)
	}
	return d.settled()
}

// P2.5: common divisors, found and given up.
func TestCommon(t *testing.T) {
	r := rand.New(rand.NewPCG(3, 3))
	for range 60 {
		g, x, y := extreme(r, 6), extreme(r, 2), extreme(r, 2)
		x, y = x.Times(g), y.Times(g).Negative()
		want := new(big.Int).GCD(nil, nil, worth(x), worth(y))
		got, ok := common(x, y, want.BitLen())
		if !ok {
			t.Fatal("common gives up:", want.BitLen())
		}
		check(t, "common", got, want)
		if got, ok = common(x, y, want.BitLen()+1); ok {
			check(t, "common that need not be found", got, want)
		}
	}
}
