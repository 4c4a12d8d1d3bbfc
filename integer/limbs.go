package integer

import (
	"cmp"
	"math/bits"
)

// The functions of this file compute with limbs: absolute values without a
// sign, the lowest limb first. Arguments are cut, and stay as they are;
// results are new memory, and are not cut.

const limbBits = 32

// cut leaves out the zeros at the high end. The capacity ends there as well:
// several results may be parts of one array, and what is appended to one of
// them must not reach another.
func cut(l []uint32) []uint32 {
	n := len(l)
	for n > 0 && l[n-1] == 0 {
		n--
	}
	return l[:n:n]
}

// duplicate returns a cut copy of limbs that may be not cut.
func duplicate(l []uint32) []uint32 {
	l = cut(l)
	c := make([]uint32, len(l))
	copy(c, l)
	return c
}

// length returns the number of binary digits.
func length(x []uint32) int {
	if len(x) == 0 {
		return 0
	}
	return limbBits*(len(x)-1) + bits.Len32(x[len(x)-1])
}

// order returns -1, 0 or 1 if x is less than, equal to or greater than y.
func order(x, y []uint32) int {
	if len(x) != len(y) {
		return cmp.Compare(len(x), len(y))
	}
	for i := len(x) - 1; i >= 0; i-- {
		if x[i] != y[i] {
			return cmp.Compare(x[i], y[i])
		}
	}
	return 0
}

// plus returns x + y.
func plus(x, y []uint32) []uint32 {
	if len(x) < len(y) {
		x, y = y, x
	}
	sum := make([]uint32, len(x)+1)
	var carry uint32
	for i := range y {
		sum[i], carry = bits.Add32(x[i], y[i], carry)
	}
	for i := len(y); i < len(x); i++ {
		sum[i], carry = bits.Add32(x[i], 0, carry)
	}
	sum[len(x)] = carry
	return sum
}

// minus returns x - y, for an x that is not less than y.
func minus(x, y []uint32) []uint32 {
	difference := make([]uint32, len(x))
	var borrow uint32
	for i := range y {
		difference[i], borrow = bits.Sub32(x[i], y[i], borrow)
	}
	for i := len(y); i < len(x); i++ {
		difference[i], borrow = bits.Sub32(x[i], 0, borrow)
	}
	return difference
}

// times returns x y.
func times(x, y []uint32) []uint32 {
	product := make([]uint32, len(x)+len(y))
	for i, m := range x {
		row := product[i:]
		var carry uint64
		for j, n := range y {
			carry += uint64(m)*uint64(n) + uint64(row[j])
			row[j] = uint32(carry)
			carry >>= limbBits
		}
		row[len(y)] = uint32(carry)
	}
	return product
}

// raise returns x 2^n, with one limb more than the whole limbs of n need.
func raise(x []uint32, n int) []uint32 {
	whole, part := n/limbBits, n%limbBits
	raised := make([]uint32, whole+len(x)+1)
	for i, d := range x {
		wide := uint64(d) << part
		raised[whole+i] |= uint32(wide)
		raised[whole+i+1] = uint32(wide >> limbBits)
	}
	return raised
}

// lower returns x / 2^n without its fraction, and whether there was one.
func lower(x []uint32, n int) (lowered []uint32, fraction bool) {
	whole, part := n/limbBits, n%limbBits
	if whole >= len(x) {
		return nil, len(x) > 0
	}
	fraction = len(cut(x[:whole])) > 0 || x[whole]<<(limbBits-part) != 0
	lowered = make([]uint32, len(x)-whole)
	copy(lowered, x[whole:])
	sink(lowered, part)
	return lowered, fraction
}

// sink divides x by 2^n in place, for an n below limbBits, and drops the fraction.
func sink(x []uint32, n int) {
	var above uint32
	for i := len(x) - 1; i >= 0; i-- {
		here := x[i]
		x[i] = here>>n | above<<(limbBits-n)
		above = here
	}
}
