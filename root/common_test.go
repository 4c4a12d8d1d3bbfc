package root_test

import (
	"math"
	"math/big"
	"math/rand/v2"
	"slices"
	"testing"

	"pinball/api"
	"pinball/poly"
	"pinball/root"
	"pinball/sturm"
)

// most is the number of binary digits of a number that is not large.
const most = 32 * api.MaxLimbs

// model is a polynomial as the standard library's numbers, that of the power 0 first.
type model []*big.Int

// ints is the model with these coefficients.
func ints(c ...int64) model {
	m := make(model, len(c))
	for i, n := range c {
		m[i] = big.NewInt(n)
	}
	return m
}

// line is d x - n.
func line(n, d *big.Int) model {
	return model{minus(n), d}
}

// by is the product of models.
func (m model) by(others ...model) model {
	for _, o := range others {
		r := make(model, len(m)+len(o)-1)
		for i := range r {
			r[i] = new(big.Int)
		}
		for i, c := range m {
			for j, d := range o {
				r[i+j].Add(r[i+j], new(big.Int).Mul(c, d))
			}
		}
		m = r
	}
	return m
}

// poly is the Poly of a model whose last element is not 0.
func (m model) poly() api.Poly {
	var p api.Poly
	for _, c := range m {
		p = append(p, number(c))
	}
	return p
}

// value is the value at x.
func (m model) value(x *big.Rat) *big.Rat {
	sum := new(big.Rat)
	for _, c := range slices.Backward(m) {
		sum.Mul(sum, x)
		sum.Add(sum, new(big.Rat).SetInt(c))
	}
	return sum
}

// number is the canonical Int of a value.
func number(v *big.Int) api.Int {
	rest := new(big.Int).Abs(v)
	a := api.Int{Neg: v.Sign() < 0}
	for rest.Sign() != 0 {
		a.L = append(a.L, uint32(new(big.Int).And(rest, big.NewInt(math.MaxUint32)).Uint64()))
		rest.Rsh(rest, 32)
	}
	return a
}

// value is what an Int stands for.
func value(a api.Int) *big.Int {
	v := new(big.Int)
	for _, l := range slices.Backward(a.L) {
		v.Lsh(v, 32)
		v.Or(v, big.NewInt(int64(l)))
	}
	if a.Neg {
		v.Neg(v)
	}
	return v
}

// rational is what a Dyadic stands for.
func rational(x api.Dyadic) *big.Rat {
	return new(big.Rat).SetFrac(value(x.N), bit(x.E))
}

// dyadic is n / 2^e.
func dyadic(n *big.Int, e int) api.Dyadic {
	return api.Dyadic{N: number(n), E: e}
}

// dy is n / 2^e.
func dy(n int64, e int) api.Dyadic {
	return dyadic(big.NewInt(n), e)
}

// bit is 2^n.
func bit(n int) *big.Int {
	return new(big.Int).Lsh(big.NewInt(1), uint(n))
}

// ones is 2^n - 1.
func ones(n int) *big.Int {
	return plus(bit(n), -1)
}

// minus is -n.
func minus(n *big.Int) *big.Int {
	return new(big.Int).Neg(n)
}

// plus is n + k.
func plus(n *big.Int, k int64) *big.Int {
	return new(big.Int).Add(n, big.NewInt(k))
}

// rough is p in a form that is not canonical: with zeros in front of its
// elements, forms of 0 as elements, and zeros at its end.
func rough(p api.Poly) api.Poly {
	var r api.Poly
	for i, a := range p {
		a.Neg = a.Neg || len(a.L) == 0
		a.L = append(slices.Clone(a.L), make([]uint32, 1+i%4*100)...)
		r = append(r, a)
	}
	return append(r, api.Int{}, api.Int{Neg: true}, api.Int{L: make([]uint32, 300)})
}

// roughDyadic is x with zeros in front of its numerator; not reduced, if it is small.
func roughDyadic(x api.Dyadic) api.Dyadic {
	if x.E <= 60 && len(x.N.L) < 4 {
		x = dyadic(new(big.Int).Lsh(value(x.N), 3), x.E+3)
	}
	x.N = rough(api.Poly{x.N})[0]
	x.N.L = append(x.N.L, make([]uint32, 300)...)
	return x
}

// roughRoot is r in a form that is not canonical.
func roughRoot(r api.Root) api.Root {
	return api.Root{P: rough(r.P), Lo: roughDyadic(r.Lo), Hi: roughDyadic(r.Hi)}
}

// alike reports whether two polynomials have the same elements with the same limbs.
func alike(p, q api.Poly) bool {
	return slices.EqualFunc(p, q, func(a, b api.Int) bool { return a.Neg == b.Neg && slices.Equal(a.L, b.L) })
}

// randomModel has the degree n, and coefficients of up to the given number of
// binary digits, some of them small or 0.
func randomModel(r *rand.Rand, n, bits int) model {
	m := make(model, n+1)
	for i := range m {
		m[i] = randomBits(r, 1+r.IntN(bits))
		if r.IntN(2) == 0 {
			m[i].Neg(m[i])
		}
	}
	if m[n].Sign() == 0 {
		m[n].SetInt64(3)
	}
	return m
}

// randomBits is a number of up to n binary digits.
func randomBits(r *rand.Rand, n int) *big.Int {
	v := new(big.Int)
	for range n {
		v.Lsh(v, 1)
		v.Or(v, big.NewInt(r.Int64N(2)))
	}
	return v
}

// factor is a polynomial with all of its real roots, up to an error of 2^-precision.
type factor struct {
	m     model
	roots []*big.Rat
}

const precision = 700

// factors are polynomials of small degrees, of which no two have a root in common.
func factors() []factor {
	l := []factor{
		found(ints(1, 0, 1)),
		found(ints(1, 1, 1)),
		found(ints(-2, 0, 1), -2, -1, 1, 2),
		found(ints(-3, 0, 4), -1, 0, 0, 1),
		found(ints(-2, 0, 0, 1), 1, 2),
		found(ints(5, 0, 0, 7), -1, 0),
		found(ints(1, -3, 0, 1), -2, -1, 0, 1, 1, 2),
		found(ints(1, 0, -10, 0, 1), -4, -3, -1, 0, 0, 1, 3, 4),
		found(ints(-1, -1, 0, 0, 0, 1), 1, 2),
		found(ints(-1000001, 0, 1), -1001, -1000, 1000, 1001),
	}
	for _, n := range [][2]int64{{0, 1}, {1, 1}, {-1, 1}, {1, 2}, {-5, 4}, {13, 8}, {1, 3}, {-7, 5}, {181, 128}, {70, 99}, {99, 70}, {-1001, 1}, {1 << 40, 1}} {
		l = append(l, factor{ints(-n[0], n[1]), []*big.Rat{big.NewRat(n[0], n[1])}})
	}
	return l
}

// found is a factor whose roots are between the given numbers, which come in pairs.
func found(m model, ends ...int64) factor {
	f := factor{m: m}
	for i := 0; i < len(ends); i += 2 {
		lo, hi := big.NewRat(ends[i], 1), big.NewRat(ends[i+1], 1)
		sign := m.value(lo).Sign()
		for range precision + 4 {
			middle := new(big.Rat).Add(lo, hi)
			if middle.Quo(middle, big.NewRat(2, 1)); m.value(middle).Sign() == sign {
				lo = middle
			} else {
				hi = middle
			}
		}
		f.roots = append(f.roots, lo)
	}
	return f
}

// near reports whether two numbers differ by so little that they are meant to be equal.
func near(x, y *big.Rat) bool {
	d := new(big.Rat).Sub(x, y)
	return d.Abs(d).Cmp(new(big.Rat).SetFrac(big.NewInt(1), bit(precision/2))) < 0
}

// sample is a Root and its value, up to an error of 2^-precision.
type sample struct {
	r     api.Root
	value *big.Rat
}

// samples are Roots of all sorts: out of Of, Isolate and Refine, of products with
// other factors, and of powers that touch 0.
func samples(t *testing.T) []sample {
	t.Helper()
	var l []sample
	all := factors()
	for i, f := range all {
		for j, o := range []model{ints(1), ints(-6), f.m, all[(i+3)%len(all)].m, all[(i+8)%len(all)].m, all[(i+1)%len(all)].m.by(f.m)} {
			p := f.m.by(o).poly()
			roots, e := root.Isolate(p, dy(-2000, 0), dy(1<<50, 0))
			if e != api.OK {
				t.Fatal("Isolate:", e, p)
			}
			for _, x := range f.roots {
				r, e := root.Refine(holder(roots, x), []int{0, 1, 7, 64}[(i+j)%4])
				if e != api.OK {
					t.Fatal("Refine:", e, p)
				}
				if j == 2 {
					r.P = rough(p)
				}
				l = append(l, sample{r, x})
			}
		}
	}
	for _, x := range []api.Dyadic{{}, dy(1, 1), dy(-5, 2), dy(13, 3), dy(181, 7), dy(-1001, 0), dy(1<<41, 1), dy(3, 64), dy(-3, 64)} {
		r, e := root.Of(roughDyadic(x))
		if e != api.OK {
			t.Fatal("Of:", e)
		}
		l = append(l, sample{r, rational(x)})
	}
	return l
}

// holder is the Root whose interval holds x.
func holder(l []api.Root, x *big.Rat) api.Root {
	return l[slices.IndexFunc(l, func(r api.Root) bool { return rational(r.Lo).Cmp(x) < 0 && x.Cmp(rational(r.Hi)) <= 0 })]
}

// counted is the number of roots that are greater than a and at most b.
func counted(t *testing.T, p api.Poly, a, b api.Dyadic) int {
	t.Helper()
	n, e := sturm.Count(p, a, b)
	if e != api.OK {
		t.Fatal("Count:", e)
	}
	return n
}

// nearlyLarge is a polynomial that touches 0 at 1 and is not large; but without
// its repeated root it is.
func nearlyLarge(t *testing.T) api.Poly {
	t.Helper()
	m := ints(1, 2, 3, 2, 1, 0, -1, -2, -3, -2, -1)
	for _, c := range m {
		c.Mul(c, bit(most-1))
	}
	m[0], m[1] = plus(m[0], -1), plus(m[1], 1)
	p := m.by(ints(-1, 1)).poly()
	if _, e := poly.Free(p); e != api.ErrSize {
		t.Fatal("the test's polynomial:", e)
	}
	if _, e := poly.Primitive(p); e != api.OK {
		t.Fatal("the test's polynomial:", e)
	}
	return p
}

// largePolys are large, by their degree or by an element; rough forms among them.
func largePolys() []api.Poly {
	power := make(api.Poly, api.MaxDegree+2)
	power[api.MaxDegree+1] = number(big.NewInt(1))
	l := []api.Poly{power, line(big.NewInt(1), bit(most)).poly(), line(bit(most), big.NewInt(1)).poly()}
	for _, p := range slices.Clone(l) {
		l = append(l, rough(p))
	}
	return l
}

// badEnds are no ends of the interval of a Root, by a little or by far.
func badEnds() []api.Dyadic {
	return []api.Dyadic{
		dy(1, -1), dy(0, math.MinInt), dy(0, 1025), dy(1, api.MaxShift), dy(1, api.MaxShift+1), dy(1, math.MaxInt),
		dyadic(bit(1024), 0), dyadic(minus(bit(1024)), 1024), dyadic(bit(1024), 1000), dyadic(ones(most), 0), dyadic(bit(most), 0),
		roughDyadic(dyadic(bit(1024), 1)), roughDyadic(dy(1, 1025)),
	}
}

// badRoots are not valid.
func badRoots() []api.Root {
	square := poly.Of(-2, 0, 1)
	l := []api.Root{
		{}, {P: poly.Of(7), Lo: dy(0, 0), Hi: dy(1, 0)}, {P: rough(nil), Hi: dy(1, 0)}, {P: poly.Of(0, 0), Hi: dy(0, 0)},
		{P: square, Lo: dy(2, 0), Hi: dy(1, 0)}, {P: square, Lo: dy(-2, 0), Hi: dy(2, 0)}, {P: square, Lo: dy(2, 0), Hi: dy(3, 0)},
		{P: square, Lo: dy(1, 0), Hi: dy(1, 0)}, {P: poly.Of(-1, 0, 1), Lo: dy(1, 0), Hi: dy(2, 0)},
		{P: poly.Of(-3, 1), Lo: dy(6, 1), Hi: dy(7, 1)}, {P: poly.Of(-3, 1), Lo: dy(5, 1), Hi: dy(5, 1)},
	}
	for _, p := range largePolys() {
		l = append(l, api.Root{P: p, Lo: dy(-1, 0), Hi: dy(1, 0)}, api.Root{P: p})
	}
	for _, x := range badEnds() {
		l = append(l, api.Root{P: poly.Of(0, 1), Lo: x, Hi: dy(1, 0)}, api.Root{P: poly.Of(0, 1), Lo: dy(-1, 0), Hi: x}, api.Root{P: poly.Of(0, 1), Lo: x, Hi: x})
	}
	return l
}

// expectError checks an error number.
func expectError(t *testing.T, what string, e, want api.Errno) {
	t.Helper()
	if e != want {
		t.Errorf("%s: error %d, want error %d", what, e, want)
	}
}

// empty reports whether r is the zero Root.
func empty(r api.Root) bool {
	return len(r.P) == 0 && r.Lo.E == 0 && r.Hi.E == 0 && len(r.Lo.N.L) == 0 && len(r.Hi.N.L) == 0 && !r.Lo.N.Neg && !r.Hi.N.Neg
}
