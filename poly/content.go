package poly

import (
	"pinball/api"
	"pinball/wide"
)

// Content returns the greatest common divisor of the coefficients of p.
func Content(p api.Poly) (api.Int, api.Errno) {
	if large(p) {
		return api.Int{}, api.ErrSize
	}
	return wide.OfPoly(p).Content().Narrow()
}

// Primitive returns p divided by its content.
func Primitive(p api.Poly) (api.Poly, api.Errno) {
	if large(p) {
		return nil, api.ErrSize
	}
	return wide.OfPoly(p).Primitive()
}
