package poly_test

import (
	"math"
	"math/big"
	"math/rand/v2"
	"slices"
	"testing"

	"pinball/api"
)

// model is a polynomial as the standard library's numbers, that of the power 0 first.
type model []*big.Int

// ints is the model with these coefficients.
func ints(c ...int64) model {
	m := make(model, len(c))
	for i, n := range c {
		m[i] = big.NewInt(n)
	}
	return m
}

// cut leaves out the zeros at the high end.
func (m model) cut() model {
	for len(m) > 0 && m[len(m)-1].Sign() == 0 {
		m = m[:len(m)-1]
	}
	return m
}

// poly is the canonical Poly of the model.
func (m model) poly() api.Poly {
	m = m.cut()
	p := make(api.Poly, len(m))
	for i, c := range m {
		p[i] = number(c)
	}
	return p
}

// times is the model multiplied by a number.
func (m model) times(n *big.Int) model {
	r := make(model, len(m))
	for i, c := range m {
		r[i] = new(big.Int).Mul(c, n)
	}
	return r.cut()
}

// plus is the sum of two models.
func (m model) plus(o model) model {
	r := make(model, max(len(m), len(o)))
	for i := range r {
		r[i] = new(big.Int)
		if i < len(m) {
			r[i].Add(r[i], m[i])
		}
		if i < len(o) {
			r[i].Add(r[i], o[i])
		}
	}
	return r.cut()
}

// by is the product of two models.
func (m model) by(o model) model {
	r := make(model, len(m)+len(o))
	for i := range r {
		r[i] = new(big.Int)
	}
	for i, c := range m {
		for j, d := range o {
			r[i+j].Add(r[i+j], new(big.Int).Mul(c, d))
		}
	}
	return r.cut()
}

// power is the model multiplied by itself.
func (m model) power(n int) model {
	r := ints(1)
	for range n {
		r = r.by(m)
	}
	return r
}

// derived is the derivative.
func (m model) derived() model {
	r := model{}
	for i := 1; i < len(m); i++ {
		r = append(r, new(big.Int).Mul(m[i], big.NewInt(int64(i))))
	}
	return r
}

// content is the greatest common divisor of the coefficients.
func (m model) content() *big.Int {
	g := new(big.Int)
	for _, c := range m {
		g.GCD(nil, nil, g, new(big.Int).Abs(c))
	}
	return g
}

// primitive is the model divided by its content.
func (m model) primitive() model {
	g, r := m.content(), make(model, len(m))
	for i, c := range m {
		r[i] = new(big.Int).Quo(c, g)
	}
	return r
}

// upright is the model with a positive leading coefficient.
func (m model) upright() model {
	if len(m) > 0 && m[len(m)-1].Sign() < 0 {
		return m.times(big.NewInt(-1))
	}
	return m
}

// over is the quotient and the remainder of two models, in rational numbers.
func (m model) over(o model) (quotient, rest []*big.Rat) {
	rest = make([]*big.Rat, len(m))
	for i, c := range m {
		rest[i] = new(big.Rat).SetInt(c)
	}
	n := len(o) - 1
	quotient = make([]*big.Rat, max(0, len(m)-n))
	for k := len(quotient) - 1; k >= 0; k-- {
		quotient[k] = new(big.Rat).Quo(rest[n+k], new(big.Rat).SetInt(o[n]))
		for i, c := range o {
			part := new(big.Rat).SetInt(c)
			rest[i+k] = new(big.Rat).Sub(rest[i+k], part.Mul(part, quotient[k]))
		}
	}
	return quotient, rest[:min(n, len(rest))]
}

// cleared is a model of rational numbers times the positive number that makes it primitive.
func cleared(l []*big.Rat) model {
	denominator := big.NewInt(1)
	for _, r := range l {
		g := new(big.Int).GCD(nil, nil, denominator, r.Denom())
		denominator.Mul(denominator, new(big.Int).Quo(r.Denom(), g))
	}
	m := make(model, len(l))
	for i, r := range l {
		m[i] = new(big.Int).Mul(r.Num(), new(big.Int).Quo(denominator, r.Denom()))
	}
	return m.cut().primitive()
}

// remainder is what P2.5 promises.
func (m model) remainder(o model) model {
	_, rest := m.over(o)
	return cleared(rest)
}

// common is the greatest common divisor that P2.6 promises.
func (m model) common(o model) model {
	for len(o) > 0 {
		m, o = o, m.remainder(o)
	}
	return m.primitive().upright()
}

// free is the polynomial without repeated roots that P2.6 promises.
func (m model) free() model {
	if len(m) < 2 {
		return m.primitive().upright()
	}
	quotient, _ := m.over(m.common(m.derived()))
	return cleared(quotient).upright()
}

// number is the canonical Int of a value.
func number(v *big.Int) api.Int {
	rest := new(big.Int).Abs(v)
	a := api.Int{Neg: v.Sign() < 0}
	for rest.Sign() != 0 {
		a.L = append(a.L, uint32(new(big.Int).And(rest, big.NewInt(math.MaxUint32)).Uint64()))
		rest.Rsh(rest, 32)
	}
	return a
}

// value is what an Int stands for.
func value(a api.Int) *big.Int {
	v := new(big.Int)
	for i := len(a.L) - 1; i >= 0; i-- {
		v.Lsh(v, 32)
		v.Or(v, big.NewInt(int64(a.L[i])))
	}
	if a.Neg {
		v.Neg(v)
	}
	return v
}

// bit is 2^n.
func bit(n int) *big.Int {
	return new(big.Int).Lsh(big.NewInt(1), uint(n))
}

// ones is 2^n - 1.
func ones(n int) *big.Int {
	return new(big.Int).Sub(bit(n), big.NewInt(1))
}

// minus is -n.
func minus(n *big.Int) *big.Int {
	return new(big.Int).Neg(n)
}

// most is the number of binary digits of a number that is not large.
const most = 32 * api.MaxLimbs

// rough is p in a form that is not canonical: with zeros in front of its
// elements, forms of 0 as elements, and zeros at its end.
func rough(p api.Poly) api.Poly {
	var r api.Poly
	for i, a := range p {
		l := append(slices.Clone(a.L), make([]uint32, i%4*100)...)
		r = append(r, api.Int{Neg: a.Neg || len(a.L) == 0 && i%2 == 0, L: l})
	}
	return append(r, api.Int{}, api.Int{Neg: true}, api.Int{L: make([]uint32, 300)}, api.Int{Neg: true, L: make([]uint32, 2)})
}

// canonical reports whether p is in canonical form.
func canonical(p api.Poly) bool {
	for i, a := range p {
		n := len(a.L)
		if n == 0 && (a.Neg || i == len(p)-1) || n > 0 && a.L[n-1] == 0 {
			return false
		}
	}
	return true
}

// same reports whether p is the canonical form of m.
func same(p api.Poly, m model) bool {
	if m = m.cut(); len(p) != len(m) || !canonical(p) {
		return false
	}
	for i, a := range p {
		if value(a).Cmp(m[i]) != 0 {
			return false
		}
	}
	return true
}

// expect checks that there is no error, and p is the canonical form of want.
func expect(t *testing.T, what string, p api.Poly, e api.Errno, want model) {
	t.Helper()
	if e != api.OK || !same(p, want) {
		t.Errorf("%s: error %d, %v, want %v", what, e, p, want)
	}
}

// expectError checks an error, and that there is no result beside it.
func expectError(t *testing.T, what string, p api.Poly, e, want api.Errno) {
	t.Helper()
	if e != want || len(p) != 0 {
		t.Errorf("%s: error %d with %d elements, want error %d", what, e, len(p), want)
	}
}

// randomNumber has up to n binary digits; some numbers are 0 or small.
func randomNumber(r *rand.Rand, n int) *big.Int {
	v := new(big.Int)
	switch r.IntN(8) {
	case 0:
		return v
	case 1:
		n = min(n, 3)
	}
	for range n {
		v.Lsh(v, 1)
		v.Or(v, big.NewInt(r.Int64N(2)))
	}
	if r.IntN(2) == 0 {
		v.Neg(v)
	}
	return v
}

// randomModel has up to the given degree and binary digits.
func randomModel(r *rand.Rand, degree, n int) model {
	m := make(model, r.IntN(degree+2))
	for i := range m {
		m[i] = randomNumber(r, n)
	}
	return m.cut()
}

// fullModel has exactly the given degree and binary digits.
func fullModel(r *rand.Rand, degree, n int) model {
	m := make(model, degree+1)
	for i := range m {
		m[i] = randomNumber(r, n-1)
		m[i].Abs(m[i]).SetBit(m[i], n-1, 1)
		if r.IntN(2) == 0 {
			m[i].Neg(m[i])
		}
	}
	return m
}

// models are polynomials of all sorts, with degrees up to 8.
func models() []model {
	l := []model{{}, ints(1), ints(-1), ints(6), ints(-12), ints(0, 1), ints(0, -4), ints(3, -6), ints(-1, 0, 1), ints(0, 0, 0, 0, 5), ints(-2, 0, 0, 0, 0, 0, 0, 0, -4), {ones(300), minus(bit(299)), new(big.Int), ones(1)}}
	l = append(l, ints(-1, 1).by(ints(-1, 1)).by(ints(2, 3)), ints(1, 0, 1).by(ints(1, 0, 1)), ints(-1, 1).by(ints(1, 0, 2)))
	r := rand.New(rand.NewPCG(1, 1))
	for _, n := range []int{2, 10, 40, 200, 400} {
		for range 4 {
			l = append(l, randomModel(r, 8, n))
		}
	}
	return l
}

// roots is a product of factors x - n.
func roots(l ...int64) model {
	m := ints(1)
	for _, n := range l {
		m = m.by(ints(-n, 1))
	}
	return m
}

// largePolys are large, by their degree or by an element; rough forms among them.
func largePolys() []api.Poly {
	monomial := func(n int, c *big.Int) api.Poly {
		m := make(model, n+1)
		for i := range m {
			m[i] = new(big.Int)
		}
		m[n] = c
		return m.poly()
	}
	l := []api.Poly{
		monomial(api.MaxDegree+1, big.NewInt(1)),
		monomial(500, big.NewInt(-7)),
		monomial(0, bit(most)),
		monomial(api.MaxDegree, minus(bit(most))),
		model{ones(9000), big.NewInt(1)}.poly(),
		model{big.NewInt(1), minus(bit(most)), big.NewInt(1)}.poly(),
	}
	for _, p := range slices.Clone(l) {
		l = append(l, rough(p))
	}
	return l
}

// limitModels are as great as polynomials may be.
func limitModels() []model {
	r := rand.New(rand.NewPCG(9, 9))
	l := []model{{ones(most)}, {minus(ones(most)), big.NewInt(1)}, fullModel(r, api.MaxDegree, most), fullModel(r, api.MaxDegree, 1)}
	top := make(model, api.MaxDegree+1)
	for i := range top {
		top[i] = new(big.Int)
	}
	top[api.MaxDegree] = minus(ones(most))
	return append(l, top)
}
