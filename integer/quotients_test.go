package integer_test

import (
	"math/big"
	"math/rand/v2"
	"testing"

	"pinball/api"
	"pinball/integer"
)

// checkQuo compares Quo with the exact quotient truncated toward 0.
func checkQuo(t *testing.T, a, b api.Int) {
	t.Helper()
	q, r, e := integer.Quo(a, b)
	if e != api.OK {
		t.Fatal("Quo", a, b, e)
	}
	wantQ, wantR := new(big.Int).QuoRem(value(a), value(b), new(big.Int))
	expect(t, "quotient", q, wantQ)
	expect(t, "remainder", r, wantR)
}

// P1.3: Quo, for numbers of all forms.
func TestQuo(t *testing.T) {
	for _, a := range samples() {
		for _, b := range samples() {
			if value(b).Sign() != 0 {
				checkQuo(t, a, b)
			}
		}
	}
	checkQuo(t, ones(256), ones(128))
	checkQuo(t, negative(ones(256)), least(256))
	checkQuo(t, ones(256), integer.Of(-1))
}

// P1.3: Quo where the estimate of a digit is too great by one, or has no room.
func TestQuoOfExtremeLimbs(t *testing.T) {
	for _, c := range []struct{ a, b []uint32 }{
		{[]uint32{3, 0, 1 << 31}, []uint32{1, 0, 1 << 29}},
		{[]uint32{0, 0, 1 << 31, 1<<31 - 1}, []uint32{1, 0, 1 << 31}},
		{[]uint32{0, 1<<32 - 2, 1 << 31}, []uint32{1<<32 - 1, 1 << 31}},
		{[]uint32{0, 0, 0, 1 << 31}, []uint32{1<<32 - 1, 1<<32 - 1, 1 << 31}},
		{[]uint32{0, 0, 1<<32 - 1, 1<<32 - 1}, []uint32{0, 1<<32 - 1, 1<<32 - 1}},
	} {
		checkQuo(t, api.Int{L: c.a}, api.Int{L: c.b})
	}
	r := rand.New(rand.NewPCG(2, 2))
	for range 20000 {
		a, b := randomNumber(r, 7), randomNumber(r, 4)
		if value(b).Sign() != 0 {
			checkQuo(t, a, b)
		}
	}
}

// P1.3: the errors of Quo, in their order.
func TestQuoErrors(t *testing.T) {
	for _, z := range zeros() {
		for _, a := range samples() {
			q, r, e := integer.Quo(a, z)
			expectError(t, "Quo by 0", q, e, api.ErrZero)
			expectError(t, "Quo by 0", r, e, api.ErrZero)
		}
		q, r, e := integer.Quo(ones(api.MaxLimbs+1), z)
		expectError(t, "Quo of a large number by 0", q, e, api.ErrSize)
		expectError(t, "Quo of a large number by 0", r, e, api.ErrSize)
	}
}

// checkGcd compares Gcd with the divisor that the standard library finds.
func checkGcd(t *testing.T, a, b api.Int) {
	t.Helper()
	g, e := integer.Gcd(a, b)
	if e != api.OK {
		t.Fatal("Gcd", a, b, e)
	}
	v, w := value(a), value(b)
	expect(t, "Gcd", g, new(big.Int).GCD(nil, nil, v.Abs(v), w.Abs(w)))
}

// P1.3: Gcd, for numbers of all forms, 0 and negative ones among them.
func TestGcd(t *testing.T) {
	for _, a := range samples() {
		for _, b := range samples() {
			checkGcd(t, a, b)
		}
	}
	checkGcd(t, ones(256), negative(ones(128)))
	checkGcd(t, ones(256), ones(255))
	checkGcd(t, least(256), padded(ones(256), 300))
}

// P1.3: Gcd of numbers with a common divisor, of all lengths.
func TestGcdOfMultiples(t *testing.T) {
	r := rand.New(rand.NewPCG(3, 3))
	for i := range 3000 {
		most := 1 + i%40
		g, a, b := value(randomNumber(r, most)), value(randomNumber(r, most)), value(randomNumber(r, most))
		checkGcd(t, number(a.Mul(a, g)), number(b.Mul(b, g)))
	}
}

// P1.3: Gcd of neighbours in Fibonacci's sequence, whose quotients are all 1:
// no division has more steps.
func TestGcdOfManySteps(t *testing.T) {
	a, b := big.NewInt(1), big.NewInt(1)
	for b.BitLen() < 32*api.MaxLimbs-40 {
		a, b = b, new(big.Int).Add(a, b)
		if b.BitLen()%61 == 0 {
			checkGcd(t, number(a), number(b))
			checkGcd(t, number(new(big.Int).Mul(a, big.NewInt(1<<33))), number(new(big.Int).Mul(b, big.NewInt(1<<35))))
		}
	}
}
