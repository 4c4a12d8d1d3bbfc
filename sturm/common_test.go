package sturm_test

import (
	"math"
	"math/big"
	"math/rand/v2"
	"slices"
	"testing"

	"pinball/api"
)

// most is the number of binary digits of a number that is not large.
const most = 32 * api.MaxLimbs

// model is a polynomial as the standard library's numbers, that of the power 0 first.
type model []*big.Int

// ints is the model with these coefficients.
func ints(c ...int64) model {
	m := make(model, len(c))
	for i, n := range c {
		m[i] = big.NewInt(n)
	}
	return m
}

// cut leaves out the zeros at the high end.
func (m model) cut() model {
	for len(m) > 0 && m[len(m)-1].Sign() == 0 {
		m = m[:len(m)-1]
	}
	return m
}

// poly is the canonical Poly of the model.
func (m model) poly() api.Poly {
	var p api.Poly
	for _, c := range m.cut() {
		p = append(p, number(c))
	}
	return p
}

// by is the product of two models.
func (m model) by(o model) model {
	r := make(model, len(m)+len(o))
	for i := range r {
		r[i] = new(big.Int)
	}
	for i, c := range m {
		for j, d := range o {
			r[i+j].Add(r[i+j], new(big.Int).Mul(c, d))
		}
	}
	return r.cut()
}

// derived is the derivative.
func (m model) derived() model {
	var r model
	for i, c := range m {
		if i > 0 {
			r = append(r, new(big.Int).Mul(c, big.NewInt(int64(i))))
		}
	}
	return r
}

// primitive is the model divided by the greatest common divisor of its coefficients.
func (m model) primitive() model {
	g := new(big.Int)
	for _, c := range m {
		g.GCD(nil, nil, g, new(big.Int).Abs(c))
	}
	r := make(model, len(m))
	for i, c := range m {
		r[i] = new(big.Int).Quo(c, g)
	}
	return r
}

// over is the quotient and the remainder of two models, in rational numbers,
// times the positive numbers that make them primitive.
func (m model) over(o model) (quotient, rest model) {
	r := make([]*big.Rat, len(m))
	for i, c := range m {
		r[i] = new(big.Rat).SetInt(c)
	}
	n := len(o) - 1
	q := make([]*big.Rat, max(0, len(m)-n))
	for k := len(q) - 1; k >= 0; k-- {
		q[k] = new(big.Rat).Quo(r[n+k], new(big.Rat).SetInt(o[n]))
		for i, c := range o {
			part := new(big.Rat).SetInt(c)
			r[i+k] = new(big.Rat).Sub(r[i+k], part.Mul(part, q[k]))
		}
	}
	return cleared(q), cleared(r[:min(n, len(r))])
}

// cleared is a model of rational numbers times the positive number that makes it primitive.
func cleared(l []*big.Rat) model {
	denominator := big.NewInt(1)
	for _, r := range l {
		denominator.Mul(denominator, r.Denom())
	}
	m := make(model, len(l))
	for i, r := range l {
		m[i] = new(big.Int).Mul(r.Num(), new(big.Int).Quo(denominator, r.Denom()))
	}
	return m.cut().primitive()
}

// negative is the model with all signs changed.
func (m model) negative() model {
	r := make(model, len(m))
	for i, c := range m {
		r[i] = new(big.Int).Neg(c)
	}
	return r
}

// free is the polynomial with the same roots, each of them once.
func (m model) free() model {
	if len(m) < 2 {
		return m.primitive().upright()
	}
	g, o := m, m.derived()
	for len(o) > 0 {
		_, rest := g.over(o)
		g, o = o, rest
	}
	q, _ := m.over(g)
	return q.upright()
}

// upright is the model with a positive leading coefficient.
func (m model) upright() model {
	if len(m) > 0 && m[len(m)-1].Sign() < 0 {
		return m.negative()
	}
	return m
}

// chain is the Sturm chain, as P3.2 describes it.
func (m model) chain() []model {
	m = m.cut().free()
	var l []model
	for next := m.derived().primitive(); len(m) > 0; {
		l = append(l, m)
		if len(next) == 0 {
			break
		}
		_, rest := m.over(next)
		m, next = next, rest.negative()
	}
	return l
}

// at is the sign of the value at x.
func (m model) at(x *big.Rat) int {
	sum := new(big.Rat)
	for _, c := range slices.Backward(m) {
		sum.Mul(sum, x)
		sum.Add(sum, new(big.Rat).SetInt(c))
	}
	return sum.Sign()
}

// changes are the changes of sign of a list of models at x.
func changes(l []model, x *big.Rat) int {
	text := ""
	for _, m := range l {
		text += [...]string{"-", "", "+"}[m.at(x)+1]
	}
	n := 0
	for i := 1; i < len(text); i++ {
		if text[i] != text[i-1] {
			n++
		}
	}
	return n
}

// number is the canonical Int of a value.
func number(v *big.Int) api.Int {
	rest := new(big.Int).Abs(v)
	a := api.Int{Neg: v.Sign() < 0}
	for rest.Sign() != 0 {
		a.L = append(a.L, uint32(new(big.Int).And(rest, big.NewInt(math.MaxUint32)).Uint64()))
		rest.Rsh(rest, 32)
	}
	return a
}

// value is what an Int stands for.
func value(a api.Int) *big.Int {
	v := new(big.Int)
	for _, l := range slices.Backward(a.L) {
		v.Lsh(v, 32)
		v.Or(v, big.NewInt(int64(l)))
	}
	if a.Neg {
		v.Neg(v)
	}
	return v
}

// rational is what a Dyadic stands for.
func rational(x api.Dyadic) *big.Rat {
	return new(big.Rat).SetFrac(value(x.N), bit(x.E))
}

// dyadic is n / 2^e.
func dyadic(n *big.Int, e int) api.Dyadic {
	return api.Dyadic{N: number(n), E: e}
}

// dy is n / 2^e.
func dy(n int64, e int) api.Dyadic {
	return dyadic(big.NewInt(n), e)
}

// bit is 2^n.
func bit(n int) *big.Int {
	return new(big.Int).Lsh(big.NewInt(1), uint(n))
}

// ones is 2^n - 1.
func ones(n int) *big.Int {
	return new(big.Int).Sub(bit(n), big.NewInt(1))
}

// minus is -n.
func minus(n *big.Int) *big.Int {
	return new(big.Int).Neg(n)
}

// plus is n + k.
func plus(n *big.Int, k int64) *big.Int {
	return new(big.Int).Add(n, big.NewInt(k))
}

// randomNumber has up to n binary digits; some numbers are 0 or small.
func randomNumber(r *rand.Rand, n int) *big.Int {
	v := new(big.Int)
	switch r.IntN(8) {
	case 0:
		return v
	case 1:
		n = min(n, 3)
	}
	for range n {
		v.Lsh(v, 1)
		v.Or(v, big.NewInt(r.Int64N(2)))
	}
	if r.IntN(2) == 0 {
		v.Neg(v)
	}
	return v
}

// randomModel has the given degree, unless its leading number is 0.
func randomModel(r *rand.Rand, degree, n int) model {
	var m model
	for range degree + 1 {
		m = append(m, randomNumber(r, n))
	}
	return m.cut()
}

// rough is p in a form that is not canonical: with zeros in front of its
// elements, forms of 0 as elements, and zeros at its end.
func rough(p api.Poly) api.Poly {
	var r api.Poly
	for i, a := range p {
		a.Neg = a.Neg || len(a.L) == 0
		a.L = append(slices.Clone(a.L), make([]uint32, 1+i%4*100)...)
		r = append(r, a)
	}
	return append(r, api.Int{}, api.Int{Neg: true}, api.Int{L: make([]uint32, 300)})
}

// roughDyadic is x with zeros in front of its numerator.
func roughDyadic(x api.Dyadic) api.Dyadic {
	x.N = rough(api.Poly{x.N})[0]
	x.N.L = append(x.N.L, make([]uint32, 300)...)
	return x
}

// same reports whether p is the canonical form of m.
func same(p api.Poly, m model) bool {
	if m = m.cut(); len(p) != len(m) {
		return false
	}
	for i, a := range p {
		n := len(a.L)
		if n == 0 && a.Neg || n > 0 && a.L[n-1] == 0 || value(a).Cmp(m[i]) != 0 {
			return false
		}
	}
	return true
}

// power is c x^n.
func power(n int, c *big.Int) model {
	m := make(model, n+1)
	for i := range m {
		m[i] = new(big.Int)
	}
	m[n] = c
	return m
}

// largePolys are large, by their degree or by an element; rough forms among them.
func largePolys() []api.Poly {
	l := []api.Poly{
		power(api.MaxDegree+1, big.NewInt(1)).poly(),
		power(300, big.NewInt(-7)).poly(),
		power(0, bit(most)).poly(),
		model{big.NewInt(1), minus(bit(most)), big.NewInt(1)}.poly(),
	}
	for _, p := range slices.Clone(l) {
		l = append(l, rough(p))
	}
	return l
}

// badDyadics are not valid.
func badDyadics() []api.Dyadic {
	return []api.Dyadic{
		dy(0, -1), dy(5, math.MinInt), dy(0, api.MaxShift+1), dy(1, math.MaxInt),
		dyadic(bit(most), 0), dyadic(minus(bit(most)), api.MaxShift), dyadic(ones(most+40), 3),
		roughDyadic(dyadic(bit(most), 1)), dyadic(bit(most), -1),
	}
}

// goodDyadics are valid: 0 and others, reduced or not, great and small ones, in rough forms too.
func goodDyadics() []api.Dyadic {
	l := []api.Dyadic{
		{}, dy(0, 7), dy(0, api.MaxShift), {N: api.Int{Neg: true, L: []uint32{0, 0}}, E: 3},
		dy(1, 0), dy(-1, 0), dy(2, 0), dy(2, 1), dy(4, 2), dy(3, 1), dy(6, 2), dy(-6, 2), dy(-12, 3), dy(-5, 3),
		dy(1, api.MaxShift), dy(-1, api.MaxShift), dy(2, api.MaxShift), dy(1, api.MaxShift-1), dy(1, 4000), dy(-3, api.MaxShift),
		dyadic(ones(most), 0), dyadic(minus(ones(most)), 0), dyadic(plus(ones(most), -1), 0),
		dyadic(ones(most), api.MaxShift), dyadic(minus(ones(most)), api.MaxShift), dyadic(bit(most-1), api.MaxShift), dyadic(bit(most-1), 0),
		dyadic(bit(api.MaxShift), api.MaxShift), dyadic(minus(bit(api.MaxShift)), api.MaxShift), dyadic(bit(5000), 4000), dyadic(bit(1000), 0),
		dyadic(plus(bit(api.MaxShift), 1), api.MaxShift),
	}
	r := rand.New(rand.NewPCG(1, 1))
	for _, n := range []int{1, 5, 40, 300, 5000, most} {
		l = append(l, dyadic(randomNumber(r, n), r.IntN(10)), dyadic(randomNumber(r, n), r.IntN(api.MaxShift+1)))
	}
	for _, x := range slices.Clone(l) {
		l = append(l, roughDyadic(x))
	}
	return l
}

// expectError checks an error number.
func expectError(t *testing.T, what string, e, want api.Errno) {
	t.Helper()
	if e != want {
		t.Errorf("%s: error %d, want error %d", what, e, want)
	}
}
