package poly

import (
	"pinball/api"
	"pinball/integer"
	"pinball/wide"
)

// Sign returns the sign of the value of p at x.
func Sign(p api.Poly, x api.Dyadic) (int, api.Errno) {
	p = cut(p)
	degree := len(p) - 1
	switch {
	case large(p) || integer.Bits(x.N) > maxBits:
		return 0, api.ErrSize
	case x.E < 0 || x.E > api.MaxShift:
		return 0, api.ErrArg
	case (integer.Bits(x.N)+x.E)*degree > maxBits:
		return 0, api.ErrSize
	}
	return wide.OfPoly(p).Sign(x), api.OK
}
