// Package wide computes with integers of any size, and with polynomials that
// have them as coefficients.
//
// Package integer refuses large numbers. But a remainder may be small, and a
// sign has no size at all, where the numbers on the way to them are large: the
// packages poly, sturm and root compute those here. What is given to this package is
// never changed; what it returns may share memory with what it was given.
package wide

import (
	"math/bits"

	"pinball/api"
	"pinball/integer"
)

// Int is an integer of any size: the sum of its digits times the powers of
// 2^digitBits. The digits but the last are from 0 to 2^digitBits - 1; the last
// has the sign of the number and at most digitBits binary digits, and is not 0.
// So 0 has no digits.
type Int []api.Int

// digits is a sum like an Int; but its elements may be any Ints of package api
// that are not large, and its memory belongs to one owner.
type digits []api.Int

// digitBits leaves room: products of two digits, sums of such products, and
// three digits in a row are not large. Therefore the functions of this package
// do not look at the errors of package integer.
const digitBits = 2048

const (
	limbBits = 32
	maxBits  = limbBits * api.MaxLimbs // binary digits of an integer that is not large
)

// Of returns a, which is not large.
func Of(a api.Int) Int {
	switch {
	case integer.Bits(a) <= digitBits:
		return cut([]api.Int{a}, isZero)
	case integer.Sign(a) < 0: // rounded down, the least numbers would become large
		return digits{integer.Neg(a)}.settled().Negative()
	}
	return digits{a}.settled()
}

// Narrow returns x, or ErrSize if it is large.
func (x Int) Narrow() (api.Int, api.Errno) {
	switch {
	case len(x) == 0:
		return api.Int{}, api.OK
	case len(x) == 1:
		return x[0], api.OK
	case x.Sign() < 0: // the last digit may be a -1 that the absolute value does not need
		a, e := x.Negative().Narrow()
		return integer.Neg(a), e
	case x.bits() > maxBits:
		return api.Int{}, api.ErrSize
	}
	return join(x...), api.OK
}

// Sign returns -1, 0 or 1.
func (x Int) Sign() int {
	if len(x) == 0 {
		return 0
	}
	return integer.Sign(x[len(x)-1])
}

// Negative returns -x.
func (x Int) Negative() Int {
	if len(x) == 1 {
		return Int{integer.Neg(x[0])}
	}
	return x.Times(Int{integer.Of(-1)})
}

// Absolute returns the absolute value of x.
func (x Int) Absolute() Int {
	if x.Sign() < 0 {
		return x.Negative()
	}
	return x
}

// Times returns x y.
func (x Int) Times(y Int) Int {
	return digits{}.plus(x, y).settled()
}

// Plus returns x + y.
func (x Int) Plus(y Int) Int {
	if len(x) == 1 && len(y) == 1 { // as nearly always, and faster than below
		sum, _ := integer.Add(x[0], y[0])
		return digits{sum}.settled()
	}
	return x.raised(0).plus(y, Int{integer.Of(1)}).settled()
}

// Power returns x multiplied n times by itself, 1 for n = 0.
func (x Int) Power(n int) Int {
	r := Int{integer.Of(1)}
	for range n {
		r = r.Times(x)
	}
	return r
}

// Raised returns x 2^n.
func (x Int) Raised(n int) Int {
	return x.raised(n).settled()
}

// Zeros returns how many zeros an x that is not 0 has at its low end.
func (x Int) Zeros() int {
	for i, a := range x {
		for j, limb := range a.L {
			if limb != 0 {
				return digitBits*i + limbBits*j + bits.TrailingZeros32(limb)
			}
		}
	}
	return 0
}

// raised returns x 2^n.
func (x Int) raised(n int) digits {
	d := make(digits, n/digitBits, n/digitBits+len(x)+1)
	for _, a := range x {
		a, _ = integer.Shift(a, n%digitBits)
		d = append(d, a)
	}
	return d
}

// bits returns the number of binary digits of the absolute value of x.
func (x Int) bits() int {
	n := len(x) - 1
	switch {
	case n < 0:
		return 0
	case n > 0: // a negative last digit may have one more, or one less
		x = x.Absolute()
		n = len(x) - 1
	}
	return digitBits*n + integer.Bits(x[n])
}

// plus returns the sum and x y, in the memory of the sum.
func (d digits) plus(x, y Int) digits {
	for i, a := range x {
		for j, b := range y {
			product, _ := integer.Mul(a, b)
			if i+j == len(d) {
				d = append(d, product)
			} else {
				d[i+j], _ = integer.Add(d[i+j], product)
			}
		}
	}
	return d
}

// settled returns the sum as an Int, in its memory.
func (d digits) settled() Int {
	for i := 0; i < len(d); i++ {
		last := i == len(d)-1
		if integer.Bits(d[i]) <= digitBits && (last || integer.Sign(d[i]) >= 0) {
			continue
		}
		carry, _ := integer.Shift(d[i], -digitBits) // rounded down: what stays is not negative
		above, _ := integer.Shift(carry, digitBits)
		d[i], _ = integer.Sub(d[i], above)
		if last {
			d = append(d, carry)
		} else {
			d[i+1], _ = integer.Add(d[i+1], carry)
		}
	}
	return Int(cut(d, isZero))
}

// join returns the number of a few digits, the lowest first.
func join(d ...api.Int) api.Int {
	var a api.Int
	for i := len(d) - 1; i >= 0; i-- {
		a, _ = integer.Shift(a, digitBits)
		a, _ = integer.Add(a, d[i])
	}
	return a
}

// cut leaves out the zeros at the high end.
func cut[T any](l []T, zero func(c T) bool) []T {
	for len(l) > 0 && zero(l[len(l)-1]) {
		l = l[:len(l)-1]
	}
	return l
}

// isZero reports whether a digit is 0.
func isZero(a api.Int) bool {
	return integer.Sign(a) == 0
}
