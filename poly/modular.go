package poly

import (
	"slices"

	"pinball/api"
)

// prime is Mersenne's: the functions of this file compute with residues modulo
// this number, and the sum of two products of residues fits into 64 bits.
const prime = 1<<31 - 1

// simple reports that no complex root of p, which is not constant, occurs more
// than once: p and its derivative have no divisor in common. It may miss that.
func simple(p api.Poly) bool {
	r := residues(p)
	d := make([]uint64, len(r)-1)
	for i := range d {
		d[i] = r[i+1] * uint64(i+1) % prime
	}
	return apart(r, d)
}

// coprime reports that p, which is not 0, and q have no divisors in common but
// constants. It may miss that.
func coprime(p, q api.Poly) bool {
	return apart(residues(p), residues(q))
}

// apart reports that two polynomials with these residues have no divisors in
// common but constants. It may miss that, but it is much faster than Euclid's
// algorithm: such a divisor would be one of the residues as well, and with the
// degree that it has, if the leading coefficient of the first one stays.
func apart(r, s []uint64) bool {
	if r[len(r)-1] == 0 {
		return false
	}
	for s = cutResidues(s); len(s) > 0; {
		r, s = s, restOfResidues(r, s)
	}
	return len(r) == 1
}

// residues returns the residues of the coefficients.
func residues(p api.Poly) []uint64 {
	l := make([]uint64, len(p))
	for i, c := range p {
		for _, limb := range slices.Backward(c.L) {
			l[i] = (l[i]<<32 | uint64(limb)) % prime
		}
		if c.Neg {
			l[i] = (prime - l[i]) % prime
		}
	}
	return l
}

// restOfResidues returns the remainder of p and q, times a number, in the memory of p.
func restOfResidues(p, q []uint64) []uint64 {
	for len(p) >= len(q) {
		top, lead := prime-p[len(p)-1], q[len(q)-1]
		shift := len(p) - len(q)
		for i := range p {
			p[i] = p[i] * lead % prime
			if i >= shift {
				p[i] = (p[i] + top*q[i-shift]) % prime
			}
		}
		p = cutResidues(p)
	}
	return p
}

// cutResidues leaves out the zeros at the high end.
func cutResidues(l []uint64) []uint64 {
	for len(l) > 0 && l[len(l)-1] == 0 {
		l = l[:len(l)-1]
	}
	return l
}
