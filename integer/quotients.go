package integer

import (
	"math/bits"

	"pinball/api"
)

// Quo returns the quotient of a and b truncated toward 0, and the remainder.
func Quo(a, b api.Int) (q, r api.Int, e api.Errno) {
	if large(a, b) {
		return q, r, api.ErrSize
	}
	y := cut(b.L)
	if len(y) == 0 {
		return q, r, api.ErrZero
	}
	quotient, remainder := divide(cut(a.L), y)
	return number(a.Neg != b.Neg, quotient), number(a.Neg, remainder), api.OK
}

// divide returns the quotient and the remainder of x and y, which is not 0.
// They are parts of one new array, and have to be cut.
func divide(x, y []uint32) (quotient, remainder []uint32) {
	if order(x, y) < 0 {
		return nil, duplicate(x)
	}
	n := len(y)
	if n == 1 {
		work := make([]uint32, len(x)+1)
		copy(work[1:], x)
		work[0] = shorten(work[1:], y[0])
		return work[1:], work[:1]
	}
	// With the highest bit of the divisor set, the estimate of a digit is off by little.
	unused := bits.LeadingZeros32(y[n-1])
	work, divisor := raise(x, unused), raise(y, unused)[:n]
	for i := len(work) - 1; i >= n; i-- {
		work[i] = digit(work[i-n:i+1], divisor) // the remainder has no limb there
	}
	sink(work[:n], unused)
	return work[n:], work[:n]
}

// shorten divides x by d in place and returns the remainder.
func shorten(x []uint32, d uint32) uint32 {
	var rest uint32
	for i := len(x) - 1; i >= 0; i-- {
		x[i], rest = bits.Div32(rest, x[i], d)
	}
	return rest
}

// digit returns the quotient of part and y, a limb, and leaves the remainder in
// the limbs of part but the highest one. Part has one limb more than y, which
// has two or more and its highest bit set.
func digit(part, y []uint32) uint32 {
	n := len(y)
	q := estimate(part[n-2:], y[n-2:])
	if takeAway(part, y, q) {
		q--
		giveBack(part, y)
	}
	return q
}

// estimate returns the quotient of the highest limbs, three of x and two of y:
// the digit of the whole numbers, or one more.
func estimate(x, y []uint32) uint32 {
	if x[2] == y[1] {
		return ^uint32(0) // the quotient would need another bit; the digit is this or one less
	}
	q, rest := bits.Div32(x[2], x[1], y[1])
	for uint64(q)*uint64(y[0]) > uint64(rest)<<limbBits|uint64(x[0]) {
		q--
		rest += y[1]
		if rest < y[1] { // it has grown out of its limb: q is small enough
			break
		}
	}
	return q
}

// takeAway subtracts y q from part, and reports whether the result is less than
// 0. The highest limb of part stays: the quotient's digit will take its place.
func takeAway(part, y []uint32, q uint32) bool {
	n := len(y)
	var carry uint64
	var borrow uint32
	for i, d := range y {
		carry += uint64(q) * uint64(d)
		part[i], borrow = bits.Sub32(part[i], uint32(carry), borrow)
		carry >>= limbBits
	}
	_, borrow = bits.Sub32(part[n], uint32(carry), borrow)
	return borrow != 0
}

// giveBack adds y to part, whose highest limb stays here too.
func giveBack(part, y []uint32) {
	var carry uint32
	for i, d := range y {
		part[i], carry = bits.Add32(part[i], d, carry)
	}
}
