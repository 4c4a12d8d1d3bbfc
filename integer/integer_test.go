package integer_test

import (
	"math"
	"math/big"
	"slices"
	"testing"

	"pinball/api"
	"pinball/integer"
)

// P1.1: Of, for every int.
func TestOf(t *testing.T) {
	for _, n := range []int{0, 1, -1, 255, 1<<31 - 1, 1 << 31, -1 << 31, 1<<32 - 1, 1 << 32, -1 << 32, 1<<32 + 1, 1 << 62, math.MaxInt, -math.MaxInt, math.MinInt} {
		expect(t, "Of", integer.Of(n), big.NewInt(int64(n)))
	}
	if a := integer.Of(math.MinInt); !a.Neg || !slices.Equal(a.L, []uint32{0, 1 << 31}) {
		t.Error("Of the least int:", a)
	}
}

// P1.1: Trim, for numbers that are not canonical, 0 with a sign, and any size.
func TestTrim(t *testing.T) {
	for _, z := range zeros() {
		expect(t, "Trim of 0", integer.Trim(z), new(big.Int))
	}
	for _, a := range append(samples(), ones(257), negative(ones(5000)), padded(least(300), 900)) {
		expect(t, "Trim", integer.Trim(a), value(a))
		expect(t, "Trim of zeros in front", integer.Trim(padded(a, 2)), value(a))
	}
	a := integer.Trim(api.Int{Neg: true, L: []uint32{0, 5, 0, 0}})
	if !a.Neg || !slices.Equal(a.L, []uint32{0, 5}) {
		t.Error("Trim keeps the zeros at the low end and the sign:", a)
	}
}

// P1.1: Sign.
func TestSign(t *testing.T) {
	for _, z := range zeros() {
		if s := integer.Sign(z); s != 0 {
			t.Error("Sign of 0:", z, s)
		}
	}
	for _, a := range append(samples(), ones(257), negative(least(3000)), padded(negative(least(300)), 900)) {
		if s := integer.Sign(a); s != value(a).Sign() {
			t.Error("Sign:", a, s)
		}
	}
}

// P1.1: Cmp is the order of the values, whatever their forms.
func TestCmp(t *testing.T) {
	l := append(samples(), ones(257), least(258), negative(least(258)), padded(negative(ones(257)), 10))
	for _, a := range l {
		for _, b := range l {
			if c := integer.Cmp(a, b); c != value(a).Cmp(value(b)) {
				t.Error("Cmp:", a, b, c)
			}
		}
	}
}

// P1.1: Bits.
func TestBits(t *testing.T) {
	for _, n := range []int{0, 1, 7, 8, 31, 32, 33, 63, 64, 1000, 8191, 8192, 20000} {
		for _, neg := range []bool{false, true} {
			a := number(power(n))
			a.Neg = neg
			if b := integer.Bits(a); b != n+1 {
				t.Errorf("Bits of 2^%d: %d", n, b)
			}
			below := number(new(big.Int).Sub(power(n), big.NewInt(1)))
			below.Neg = neg
			if b := integer.Bits(padded(below, 3)); b != n {
				t.Errorf("Bits of 2^%d - 1: %d", n, b)
			}
		}
	}
	for _, z := range zeros() {
		if b := integer.Bits(z); b != 0 {
			t.Error("Bits of 0:", z, b)
		}
	}
}

// P1.1: Neg, for any size.
func TestNeg(t *testing.T) {
	for _, z := range zeros() {
		expect(t, "Neg of 0", integer.Neg(z), new(big.Int))
	}
	for _, a := range append(samples(), ones(257), negative(least(1000)), padded(least(300), 900)) {
		expect(t, "Neg", integer.Neg(a), new(big.Int).Neg(value(a)))
	}
}
