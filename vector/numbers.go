package vector

import (
	"math"
	"math/bits"
)

// Root returns the greatest integer whose square is at most n, 0 if n is negative.
func Root(n int) int {
	if n <= 0 {
		return 0
	}
	// Newton's method: from a number that is too great, the steps go down until they reach the root.
	root := 1 << ((bits.Len(uint(n)) + 1) / 2)
	for {
		next := (root + n/root) / 2
		if next >= root {
			return root
		}
		root = next
	}
}

// MulDiv returns a b / c truncated toward 0, and whether c is not 0 and the quotient is an int.
func MulDiv(a, b, c int) (int, bool) {
	negative := (a < 0) != (b < 0) != (c < 0)
	greatest := uint(math.MaxInt)
	if negative {
		greatest++
	}
	high, low := bits.Mul(size(a), size(b))
	if high >= size(c) { // c is 0, or the quotient has more digits than a uint
		return 0, false
	}
	q, _ := bits.Div(high, low, size(c))
	switch {
	case q > greatest:
		return 0, false
	case negative:
		q = -q
	}
	return int(q), true
}

// size returns the absolute value of n, also of the least int, whose negation is no int.
func size(n int) uint {
	if n < 0 {
		return -uint(n)
	}
	return uint(n)
}

// around returns the floor and the ceiling of a b / c, for a positive c and a quotient that is an int.
func around(a, b, c int) (floor, ceiling int) {
	q, _ := MulDiv(a, b, c)
	floor, ceiling = q, q
	// The products may be no ints, but their difference is nearer to 0 than c, so it is right even if they wrap around.
	switch rest := a*b - q*c; {
	case rest < 0:
		floor--
	case rest > 0:
		ceiling++
	}
	return floor, ceiling
}

// divisor returns the greatest common divisor of a and b.
func divisor(a, b int) int {
	for b != 0 {
		a, b = b, a%b
	}
	return max(a, -a)
}
