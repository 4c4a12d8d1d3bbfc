package poly

import (
	"pinball/api"
	"pinball/integer"
)

// wide is an integer of any size: the sum of its digits times the powers of
// 2^digitBits. The digits but the last are from 0 to 2^digitBits - 1; the last
// has the sign of the number and at most digitBits binary digits, and is not 0.
// So 0 has no digits. Nobody changes a wide: wides may share memory.
type wide []api.Int

// digits is a sum like a wide; but its elements may be any Ints that are not
// large, and its memory belongs to one owner.
type digits []api.Int

// digitBits leaves room: products of two digits, sums of such products, and
// three digits in a row are not large. Therefore the functions of this file do
// not look at the errors of package integer.
const digitBits = 2048

// widen returns a, which is not large.
func widen(a api.Int) wide {
	switch {
	case integer.Bits(a) <= digitBits:
		return wide(cut(api.Poly{a}))
	case integer.Sign(a) < 0: // rounded down, the least numbers would become large
		return digits{integer.Neg(a)}.settled().negative()
	}
	return digits{a}.settled()
}

// widenAll returns the coefficients of p, which is not large.
func widenAll(p api.Poly) []wide {
	r := make([]wide, len(p))
	for i, c := range p {
		r[i] = widen(c)
	}
	return r
}

// narrow returns x, or ErrSize if it is large. It may share memory with x.
func (x wide) narrow() (api.Int, api.Errno) {
	switch {
	case len(x) == 0:
		return api.Int{}, api.OK
	case len(x) == 1:
		return x[0], api.OK
	case x.sign() < 0: // the last digit may be a -1 that the absolute value does not need
		a, e := x.negative().narrow()
		return integer.Neg(a), e
	case x.bits() > maxBits:
		return api.Int{}, api.ErrSize
	}
	return join(x...), api.OK
}

// narrowAll returns the polynomial with these coefficients, or ErrSize if one is large.
func narrowAll(l []wide) (api.Poly, api.Errno) {
	p := make(api.Poly, len(l))
	for i, x := range l {
		c, e := x.narrow()
		if e != api.OK {
			return nil, e
		}
		p[i] = c
	}
	return cut(p), api.OK
}

// settled returns the sum as a wide, in its memory.
func (d digits) settled() wide {
	for i := 0; i < len(d); i++ {
		last := i == len(d)-1
		if integer.Bits(d[i]) <= digitBits && (last || integer.Sign(d[i]) >= 0) {
			continue
		}
		carry, _ := integer.Shift(d[i], -digitBits) // rounded down: what stays is not negative
		above, _ := integer.Shift(carry, digitBits)
		d[i], _ = integer.Sub(d[i], above)
		if last {
			d = append(d, carry)
		} else {
			d[i+1], _ = integer.Add(d[i+1], carry)
		}
	}
	return wide(cut(api.Poly(d)))
}

// plus returns the sum and x y, in the memory of the sum.
func (d digits) plus(x, y wide) digits {
	for i, a := range x {
		for j, b := range y {
			product, _ := integer.Mul(a, b)
			if i+j == len(d) {
				d = append(d, product)
			} else {
				d[i+j], _ = integer.Add(d[i+j], product)
			}
		}
	}
	return d
}

// times returns x y.
func (x wide) times(y wide) wide {
	return digits{}.plus(x, y).settled()
}

// raised returns x 2^n.
func (x wide) raised(n int) digits {
	d := make(digits, n/digitBits, n/digitBits+len(x)+1)
	for _, a := range x {
		a, _ = integer.Shift(a, n%digitBits)
		d = append(d, a)
	}
	return d
}

// sign returns -1, 0 or 1.
func (x wide) sign() int {
	if len(x) == 0 {
		return 0
	}
	return integer.Sign(x[len(x)-1])
}

// negative returns -x.
func (x wide) negative() wide {
	return x.times(wide{integer.Of(-1)})
}

// absolute returns the absolute value of x.
func (x wide) absolute() wide {
	if x.sign() < 0 {
		return x.negative()
	}
	return x
}

// share returns x divided by y, which divides it and is greater than 0.
func (x wide) share(y wide) wide {
	q, _ := x.absolute().over(y)
	if x.sign() < 0 {
		return q.negative()
	}
	return q
}

// The functions below are for numbers that are not negative.

// bits returns the number of binary digits.
func (x wide) bits() int {
	if len(x) == 0 {
		return 0
	}
	return digitBits*(len(x)-1) + integer.Bits(x[len(x)-1])
}

// digit returns the digit i, which may be outside of the number.
func (x wide) digit(i int) api.Int {
	if i < 0 || i >= len(x) {
		return api.Int{}
	}
	return x[i]
}

// join returns the number of a few digits, the lowest first.
func join(d ...api.Int) api.Int {
	var a api.Int
	for i := len(d) - 1; i >= 0; i-- {
		a, _ = integer.Shift(a, digitBits)
		a, _ = integer.Add(a, d[i])
	}
	return a
}

// over returns the quotient of x and y, which is not 0, and the remainder.
func (x wide) over(y wide) (quotient, rest wide) {
	n := len(y)
	divisor := join(y.digit(n-2), y.digit(n-1))
	d := make(digits, max(len(x)-n+1, 0))
	rest = x
	for i := len(d) - 1; i >= 0; i-- {
		// The highest digits alone give the digit of the quotient, or one more.
		head := join(rest.digit(i+n-2), rest.digit(i+n-1), rest.digit(i+n))
		d[i], _, _ = integer.Quo(head, divisor)
		part := wide(append(make(digits, i), y...))
		rest = rest.minus(d[i], part)
		if rest.sign() < 0 {
			d[i], _ = integer.Sub(d[i], integer.Of(1))
			rest = rest.minus(integer.Of(-1), part)
		}
	}
	return d.settled(), rest
}

// minus returns x - a y, for an a that is at most 2^digitBits.
func (x wide) minus(a api.Int, y wide) wide {
	return append(digits{}, x...).plus(wide{integer.Neg(a)}, y).settled()
}

// common returns the greatest common divisor of x and y, and true. If that has
// less than a number of binary digits, it may return false.
func common(x, y wide, least int) (wide, bool) {
	for y.sign() != 0 {
		if y.bits() < least {
			return nil, false
		}
		a, e := x.narrow()
		b, f := y.narrow()
		if e == api.OK && f == api.OK { // package integer is much faster
			g, _ := integer.Gcd(a, b)
			return widen(g), true
		}
		_, rest := x.over(y)
		x, y = y, rest
	}
	return x, true
}
