package poly

import (
	"pinball/api"
	"pinball/integer"
)

// Content returns the greatest common divisor of the coefficients of p.
func Content(p api.Poly) (api.Int, api.Errno) {
	if large(p) {
		return api.Int{}, api.ErrSize
	}
	return content(cut(p)), api.OK
}

// Primitive returns p divided by its content.
func Primitive(p api.Poly) (api.Poly, api.Errno) {
	if large(p) {
		return nil, api.ErrSize
	}
	return primitive(cut(p)), api.OK
}

// content returns the content of a p that is not large.
func content(p api.Poly) api.Int {
	var g api.Int
	for _, c := range p {
		g, _ = integer.Gcd(g, c)
		if integer.Bits(g) == 1 { // 1: no coefficient can change it
			break
		}
	}
	return g
}

// primitive returns a p that is cut and not large, divided by its content.
func primitive(p api.Poly) api.Poly {
	g := content(p)
	r := make(api.Poly, len(p))
	for i, c := range p {
		r[i], _, _ = integer.Quo(c, g)
	}
	return r
}

// reduce returns p divided by its content, or ErrSize if that is large.
func reduce(p []wide) (api.Poly, api.Errno) {
	if small, e := narrowAll(p); e == api.OK {
		return primitive(small), api.OK
	}
	most := 0
	for _, c := range p {
		most = max(most, c.absolute().bits())
	}
	var g wide
	for _, c := range p {
		var ok bool
		// With fewer digits in the divisor, the greatest coefficient would stay large.
		if g, ok = common(g, c.absolute(), most-maxBits); !ok {
			return nil, api.ErrSize
		}
	}
	r := make([]wide, len(p))
	for i, c := range p {
		r[i] = c.share(g)
	}
	return narrowAll(r)
}
