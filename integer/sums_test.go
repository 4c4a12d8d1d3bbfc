package integer_test

import (
	"math"
	"math/big"
	"testing"

	"pinball/api"
	"pinball/integer"
)

// P1.2: Add, Sub and Mul, for numbers of all forms.
func TestSums(t *testing.T) {
	for _, a := range samples() {
		for _, b := range samples() {
			v, w := value(a), value(b)
			s, e := integer.Add(a, b)
			d, f := integer.Sub(a, b)
			p, g := integer.Mul(a, b)
			if e != api.OK || f != api.OK || g != api.OK {
				t.Fatal("errors", a, b, e, f, g)
			}
			expect(t, "Add", s, new(big.Int).Add(v, w))
			expect(t, "Sub", d, new(big.Int).Sub(v, w))
			expect(t, "Mul", p, new(big.Int).Mul(v, w))
		}
	}
}

// P1.2: results of exactly MaxLimbs limbs, and of one more.
func TestSumsAtTheLimit(t *testing.T) {
	one, most := integer.Of(1), ones(api.MaxLimbs)
	s, e := integer.Add(most, negative(one))
	if e != api.OK {
		t.Error("Add up to the limit:", e)
	}
	expect(t, "Add", s, new(big.Int).Sub(value(most), big.NewInt(1)))
	s, e = integer.Add(most, one)
	expectError(t, "Add", s, e, api.ErrSize)
	s, e = integer.Add(negative(most), negative(one))
	expectError(t, "Add of negative numbers", s, e, api.ErrSize)
	s, e = integer.Sub(most, most)
	if e != api.OK {
		t.Error("Sub of equal numbers:", e)
	}
	expect(t, "Sub of equal numbers", s, new(big.Int))
	s, e = integer.Sub(most, negative(one))
	expectError(t, "Sub", s, e, api.ErrSize)
	s, e = integer.Sub(negative(most), one)
	expectError(t, "Sub of a negative number", s, e, api.ErrSize)
	for _, c := range []struct {
		m, n int
		want api.Errno
	}{{127, 129, api.OK}, {128, 128, api.OK}, {129, 129, api.ErrSize}, {256, 256, api.ErrSize}, {1, 256, api.ErrSize}} {
		p, e := integer.Mul(negative(ones(c.m)), ones(c.n))
		if c.want == api.OK && e == api.OK {
			expect(t, "Mul", p, new(big.Int).Mul(value(negative(ones(c.m))), value(ones(c.n))))
		} else {
			expectError(t, "Mul", p, e, c.want)
		}
	}
	// 257 limbs of factors, but 256 of the product
	p, e := integer.Mul(least(129), least(128))
	if e != api.OK {
		t.Error("Mul of powers up to the limit:", e)
	}
	expect(t, "Mul of powers", p, power(32*255))
	p, e = integer.Mul(least(129), least(129))
	expectError(t, "Mul of powers", p, e, api.ErrSize)
}

// P1.2, P1.3: arguments of exactly MaxLimbs limbs, with zeros in front, and of
// one limb more, which are large even where the result is not.
func TestLargeArguments(t *testing.T) {
	one, long := integer.Of(1), padded(integer.Of(7), 2*api.MaxLimbs)
	for _, f := range twos() {
		for _, a := range []api.Int{ones(api.MaxLimbs + 1), negative(ones(api.MaxLimbs + 1)), least(api.MaxLimbs + 1), ones(5000)} {
			for _, b := range []api.Int{{}, one, integer.Of(-1), least(api.MaxLimbs), a} {
				r, e := f.call(a, b)
				expectError(t, f.name+" of a large number", r, e, api.ErrSize)
				r, e = f.call(b, a)
				expectError(t, f.name+" with a large number", r, e, api.ErrSize)
			}
		}
		for _, b := range []api.Int{one, long, least(api.MaxLimbs - 1)} {
			want, e := f.call(integer.Of(7), integer.Trim(b))
			r, g := f.call(long, b)
			if e != api.OK || g != api.OK {
				t.Error(f.name, "with zeros in front:", e, g)
			}
			expect(t, f.name+" with zeros in front", r, value(want))
		}
	}
	for _, f := range twos()[3:] { // Gcd and Quo of numbers at the limit
		if _, e := f.call(ones(api.MaxLimbs), negative(ones(api.MaxLimbs))); e != api.OK {
			t.Error(f.name, "at the limit:", e)
		}
	}
}

// P1.4: Shift is multiplication by a power of 2, rounded down.
func TestShift(t *testing.T) {
	shifts := []int{0, 1, 2, 5, 31, 32, 33, 63, 64, 65, 95, 96, 127, 128, 129, 1000, 4000}
	for _, a := range append(samples(), integer.Of(-8), integer.Of(-9), negative(least(2)), negative(ones(128))) {
		for _, n := range shifts {
			r, e := integer.Shift(a, n)
			if e != api.OK {
				t.Fatal("Shift", a, n, e)
			}
			expect(t, "Shift up", r, new(big.Int).Mul(value(a), power(n)))
			r, e = integer.Shift(a, -n)
			if e != api.OK {
				t.Fatal("Shift", a, -n, e)
			}
			// Div rounds down for positive divisors
			expect(t, "Shift down", r, new(big.Int).Div(value(a), power(n)))
		}
	}
}

// P1.4: any n, and results of exactly MaxLimbs limbs and of one more.
func TestShiftAtTheLimit(t *testing.T) {
	for _, n := range []int{8191, 8190, 8160} {
		r, e := integer.Shift(integer.Of(-1), n)
		if e != api.OK {
			t.Error("Shift up to the limit:", n, e)
		}
		expect(t, "Shift up to the limit", r, new(big.Int).Neg(power(n)))
	}
	for _, n := range []int{8192, 8193, 8224, 1 << 31, 1 << 32, 1 << 62, math.MaxInt} {
		r, e := integer.Shift(integer.Of(1), n)
		expectError(t, "Shift beyond the limit", r, e, api.ErrSize)
		for _, z := range zeros() {
			r, e = integer.Shift(z, n)
			if e != api.OK {
				t.Error("Shift of 0:", n, e)
			}
			expect(t, "Shift of 0", r, new(big.Int))
		}
	}
	r, e := integer.Shift(ones(api.MaxLimbs), 1)
	expectError(t, "Shift by 1", r, e, api.ErrSize)
	r, e = integer.Shift(ones(api.MaxLimbs), 0)
	if e != api.OK {
		t.Error("Shift by 0:", e)
	}
	expect(t, "Shift by 0", r, value(ones(api.MaxLimbs)))
	for _, n := range []int{-8191, -8192, -8193, -1 << 31, -1 << 32, math.MinInt + 1, math.MinInt} {
		up, e := integer.Shift(ones(api.MaxLimbs), n)
		down, f := integer.Shift(negative(ones(api.MaxLimbs)), n)
		if e != api.OK || f != api.OK {
			t.Error("Shift down by", n, e, f)
		}
		left := int64(0)
		if n == -8191 {
			left = 1
		}
		expect(t, "Shift of a positive number", up, big.NewInt(left))
		expect(t, "Shift of a negative number", down, big.NewInt(-1-left))
	}
	for _, n := range []int{-1, 0, 1, -32, -9000, math.MinInt, math.MaxInt} {
		r, e := integer.Shift(ones(api.MaxLimbs+1), n)
		expectError(t, "Shift of a large number", r, e, api.ErrSize)
	}
	r, e = integer.Shift(padded(integer.Of(-5), 2*api.MaxLimbs), -1)
	if e != api.OK {
		t.Error("Shift with zeros in front:", e)
	}
	expect(t, "Shift with zeros in front", r, big.NewInt(-3))
}
