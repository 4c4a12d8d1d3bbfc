package sturm

import (
	"pinball/api"
	"pinball/integer"
	"pinball/wide"
)

// Cmp returns -1, 0 or 1 if x is less than, equal to or greater than y.
func Cmp(x, y api.Dyadic) (int, api.Errno) {
	if !valid(x) || !valid(y) {
		return 0, api.ErrArg
	}
	y.N = integer.Neg(y.N)
	n, _ := sum(x, y)
	return n.Sign(), api.OK
}

// Middle returns (x + y) / 2, reduced.
func Middle(x, y api.Dyadic) (api.Dyadic, api.Errno) {
	if !valid(x) || !valid(y) {
		return api.Dyadic{}, api.ErrArg
	}
	n, e := sum(x, y)
	return reduced(n, e+1)
}

// valid reports whether x has an exponent within the limits and a numerator that is not large.
func valid(x api.Dyadic) bool {
	return x.E >= 0 && x.E <= api.MaxShift && integer.Bits(x.N) <= 32*api.MaxLimbs
}

// sum returns the numbers n and e with n / 2^e = x + y. The numerator is wide:
// the numbers in it may cancel, and 2 may be a factor of what is left.
func sum(x, y api.Dyadic) (n wide.Int, e int) {
	e = max(x.E, y.E)
	return wide.Of(x.N).Raised(e - x.E).Plus(wide.Of(y.N).Raised(e - y.E)), e
}

// reduced returns n / 2^e in its reduced form, or ErrSize if that is not valid.
func reduced(n wide.Int, e int) (api.Dyadic, api.Errno) {
	if n.Sign() == 0 {
		return api.Dyadic{}, api.OK
	}
	k := min(e, n.Zeros())
	numerator, f := n.Share(wide.Of(integer.Of(1)).Raised(k)).Narrow()
	if f != api.OK || e-k > api.MaxShift {
		return api.Dyadic{}, api.ErrSize
	}
	return api.Dyadic{N: numerator, E: e - k}, api.OK
}
