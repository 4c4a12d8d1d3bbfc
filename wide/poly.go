package wide

import (
	"slices"

	"pinball/api"
	"pinball/integer"
)

// Poly is a polynomial; element i belongs to the power i, and the last is not 0.
type Poly []Int

// OfPoly returns p, which is not large.
func OfPoly(p api.Poly) Poly {
	r := make(Poly, len(p))
	for i, c := range p {
		r[i] = Of(c)
	}
	return r.cut()
}

// Narrow returns p, or ErrSize if a coefficient is large.
func (p Poly) Narrow() (api.Poly, api.Errno) {
	r := make(api.Poly, len(p))
	for i, x := range p {
		c, e := x.Narrow()
		if e != api.OK {
			return nil, e
		}
		r[i] = c
	}
	return r, api.OK
}

// Sign returns the sign of the value at x.
func (p Poly) Sign(x api.Dyadic) int {
	if len(p) == 0 {
		return 0
	}
	// Times 2^(E degree), all terms are integers and the sign is the same.
	n, degree := Of(x.N), len(p)-1
	value := p[degree]
	for i := degree - 1; i >= 0; i-- {
		value = p[i].raised(x.E*(degree-i)).plus(value, n).settled()
	}
	return value.Sign()
}

// SignBehind returns the sign just behind x, of a p that is not 0: that of the
// first derivative that is not 0 at x.
func (p Poly) SignBehind(x api.Dyadic) int {
	s := p.Sign(x)
	for s == 0 {
		p = p.Derivative()
		s = p.Sign(x)
	}
	return s
}

// Content returns the greatest common divisor of the coefficients.
func (p Poly) Content() Int {
	g, _ := p.content(0)
	return g
}

// Primitive returns p divided by its content, or ErrSize if that is large. It
// is new memory.
func (p Poly) Primitive() (api.Poly, api.Errno) {
	most := 0
	for _, c := range p {
		most = max(most, c.bits())
	}
	// With fewer digits in the divisor, the greatest coefficient would stay large.
	g, ok := p.content(most - maxBits)
	if !ok {
		return nil, api.ErrSize
	}
	return p.Share(g).Narrow()
}

// content returns the greatest common divisor of the coefficients, and true. If
// that has less than a number of binary digits, it may return false.
func (p Poly) content(least int) (g Int, ok bool) {
	for _, c := range p {
		if g, ok = common(g, c, least); !ok {
			return nil, false
		}
		if g.bits() == 1 { // 1: no coefficient can change it
			break
		}
	}
	return g, true
}

// Share returns p divided by n, which divides it and is not 0. It is new memory.
func (p Poly) Share(n Int) Poly {
	r := make(Poly, len(p))
	for i, c := range p {
		r[i] = c.Share(n)
	}
	return r
}

// Derivative returns the derivative of p.
func (p Poly) Derivative() Poly {
	var r Poly
	for i := 1; i < len(p); i++ {
		r = append(r, p[i].Times(Int{integer.Of(i)}))
	}
	return r
}

// Times returns p q.
func (p Poly) Times(q Poly) Poly {
	if len(p) == 0 || len(q) == 0 {
		return nil
	}
	sums := make([]digits, len(p)+len(q)-1)
	for i, a := range p {
		for j, b := range q {
			sums[i+j] = sums[i+j].plus(a, b)
		}
	}
	r := make(Poly, len(sums))
	for i, s := range sums {
		r[i] = s.settled()
	}
	return r
}

// Quotient returns p divided by q, which divides it: all coefficients of the
// quotient are integers.
func (p Poly) Quotient(q Poly) Poly {
	n := len(q) - 1
	rest := slices.Clone(p)
	r := make(Poly, max(0, len(p)-n))
	for k := len(r) - 1; k >= 0; k-- {
		r[k] = rest[n+k].Share(q[n])
		factor := r[k].Negative()
		for i, c := range q {
			rest[i+k] = rest[i+k].raised(0).plus(factor, c).settled()
		}
	}
	return r
}

// Remainder returns the remainder of a multiple of p and q, which is not 0. The
// multiple is the positive one that needs no fractions whatever the polynomials
// are: as many times the absolute value of the leading coefficient of q as there
// are powers to take away, one more than the difference of the degrees.
func (p Poly) Remainder(q Poly) Poly {
	n := len(q) - 1
	switch {
	case n == 0:
		return nil // as the loop would find, with numbers that grow for nothing
	case q[n].Sign() < 0:
		q = q.Negative()
	}
	for len(p) > n {
		top := p[len(p)-1].Negative()
		rest := make(Poly, len(p)-1)
		for i := range rest {
			s := digits{}.plus(p[i], q[n])
			if k := len(rest) - n; i >= k {
				s = s.plus(top, q[i-k])
			}
			rest[i] = s.settled()
		}
		p = rest
	}
	return p.cut()
}

// Remainders returns p, q and the remainders that follow in Euclid's algorithm,
// as long as they are not 0: each is that of the two before it, times a negative
// number. The degree of q is less than that of p.
//
// To make the remainders primitive would take long where they are large. But they
// always have the factor g h^d (the algorithm of subresultants, by Brown and
// Collins), and without it they are not longer than determinants of coefficients.
func (p Poly) Remainders(q Poly) []Poly {
	l := []Poly{p}
	g, h := Int{integer.Of(1)}, Int{integer.Of(1)}
	for len(q) > 0 {
		l = append(l, q)
		d := len(p) - len(q)
		factor := g.Times(h.Power(d)).Negative()
		p, q = q, p.Remainder(q).Share(factor)
		g = p[len(p)-1].Absolute()
		h = g.Power(d).Share(h.Power(d - 1))
	}
	return l
}

// Negative returns -p.
func (p Poly) Negative() Poly {
	r := make(Poly, len(p))
	for i, c := range p {
		r[i] = c.Negative()
	}
	return r
}

// cut leaves out the zeros at the high end.
func (p Poly) cut() Poly {
	return cut(p, func(c Int) bool { return len(c) == 0 })
}
