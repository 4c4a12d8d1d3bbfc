package poly

import (
	"pinball/api"
	"pinball/integer"
)

// Sign returns the sign of the value of p at x.
func Sign(p api.Poly, x api.Dyadic) (int, api.Errno) {
	p = cut(p)
	degree := len(p) - 1
	switch {
	case large(p) || integer.Bits(x.N) > maxBits:
		return 0, api.ErrSize
	case x.E < 0 || x.E > api.MaxShift:
		return 0, api.ErrArg
	case (integer.Bits(x.N)+x.E)*degree > maxBits:
		return 0, api.ErrSize
	case degree < 0:
		return 0, api.OK
	}
	// Times 2^(E degree), all terms are integers and the sign is the same.
	n := widen(x.N)
	value := widen(p[degree])
	for i := degree - 1; i >= 0; i-- {
		value = widen(p[i]).raised(x.E*(degree-i)).plus(value, n).settled()
	}
	return value.sign(), api.OK
}
