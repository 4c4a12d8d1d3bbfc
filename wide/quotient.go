package wide

import (
	"pinball/api"
	"pinball/integer"
)

// Share returns x divided by y, which divides it and is not 0. It is new memory.
func (x Int) Share(y Int) Int {
	if a, b, ok := narrow(x, y); ok { // package integer is much faster
		q, _, _ := integer.Quo(a, b)
		return Of(q)
	}
	q, _ := x.Absolute().over(y.Absolute())
	if x.Sign() != y.Sign() {
		return q.Negative()
	}
	return q
}

// narrow returns two numbers, and whether neither is large.
func narrow(x, y Int) (a, b api.Int, ok bool) {
	a, e := x.Narrow()
	b, f := y.Narrow()
	return a, b, e == api.OK && f == api.OK
}

// common returns the greatest common divisor of x and y, and true. If that has
// less than a number of binary digits, it may return false.
func common(x, y Int, least int) (Int, bool) {
	if a, b, ok := narrow(x, y); ok {
		g, _ := integer.Gcd(a, b)
		return Of(g), true
	}
	x, y = x.Absolute(), y.Absolute()
	for y.Sign() != 0 {
		if y.bits() < least {
			return nil, false
		}
		if a, b, ok := narrow(x, y); ok {
			g, _ := integer.Gcd(a, b)
			return Of(g), true
		}
		_, rest := x.over(y)
		x, y = y, rest
	}
	return x, true
}

// The functions below are for numbers that are not negative.

// over returns the quotient of x and y, which is not 0, and the remainder.
func (x Int) over(y Int) (quotient, rest Int) {
	n := len(y)
	divisor := join(y.digit(n-2), y.digit(n-1))
	d := make(digits, max(len(x)-n+1, 0))
	rest = x
	for i := len(d) - 1; i >= 0; i-- {
		// The highest digits alone give the digit of the quotient, or one more.
		head := join(rest.digit(i+n-2), rest.digit(i+n-1), rest.digit(i+n))
		d[i], _, _ = integer.Quo(head, divisor)
		part := Int(append(make(digits, i), y...))
		rest = rest.minus(d[i], part)
		if rest.Sign() < 0 {
			d[i], _ = integer.Sub(d[i], integer.Of(1))
			rest = rest.minus(integer.Of(-1), part)
		}
	}
	return d.settled(), rest
}

// digit returns the digit i, which may be outside of the number.
func (x Int) digit(i int) api.Int {
	if i < 0 || i >= len(x) {
		return api.Int{}
	}
	return x[i]
}

// minus returns x - a y, for an a that is at most 2^digitBits.
func (x Int) minus(a api.Int, y Int) Int {
	return append(digits{}, x...).plus(Int{integer.Neg(a)}, y).settled()
}
