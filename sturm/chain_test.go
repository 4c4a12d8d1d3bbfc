package sturm_test

import (
	"math/big"
	"math/rand/v2"
	"slices"
	"testing"

	"pinball/api"
	"pinball/poly"
	"pinball/sturm"
)

// models are polynomials of all sorts: constants, roots that occur more than once, missing powers.
func models() []model {
	line := func(n, d int64) model { return ints(-n, d) }
	l := []model{
		nil, ints(1), ints(-1), ints(-12), ints(0, 1), ints(0, -3), ints(4, -6), ints(-2, 0, 1), ints(2, 0, -1), ints(2, 0, 1), ints(0, 0, 0, 0, 5),
		ints(0, -1, 0, 1), ints(-1, 0, 0, 0, 0, 0, 0, 0, 2), ints(1, 1, 1, 1, 1, 1), ints(-7, 0, 0, 0, 1).by(ints(-3, 2)),
		line(1, 1).by(line(1, 1)), line(1, 2).by(line(1, 2)).by(line(-3, 1)), ints(1, 0, 1).by(ints(1, 0, 1)), ints(-2, 0, 1).by(ints(-2, 0, 1)).by(line(5, 4)),
		line(1, 1).by(line(2, 1)).by(line(2, 1)).by(line(3, 1)).by(line(3, 1)).by(line(3, 1)).by(ints(-1)),
		{ones(300), minus(bit(299)), new(big.Int), ones(1)},
		{ones(most)}, {minus(ones(most)), big.NewInt(3)}, {big.NewInt(-1), new(big.Int), ones(most)},
		power(api.MaxDegree, big.NewInt(-9)),
	}
	long := ints(1)
	for i := range int64(api.MaxDegree) {
		long = long.by(line(i-7, 1+i%2))
	}
	l = append(l, long)
	r := rand.New(rand.NewPCG(3, 3))
	for i := range 30 {
		l = append(l, randomModel(r, i%9, 1+i*7))
	}
	for n := 5; n <= api.MaxDegree; n++ { // the degrees of the remainders fall by more than one
		for k := range 4 {
			gap := power(n, big.NewInt(int64(3-n%7*2)))
			copy(gap, randomModel(r, 2+k*(n-4)/4, 3+k))
			l = append(l, gap)
		}
	}
	for i := range 6 {
		m := randomModel(r, 1+i%2, 10+i)
		l = append(l, m.by(m).by(randomModel(r, i%3, 20)))
	}
	return l
}

// P3.2: Chain, for polynomials of all forms.
func TestChain(t *testing.T) {
	for _, m := range models() {
		want := m.chain()
		for _, p := range []api.Poly{m.poly(), rough(m.poly())} {
			l, e := sturm.Chain(p)
			if e != api.OK || len(l) != len(want) {
				t.Errorf("Chain of %v: %d elements, error %d, want %d elements", m, len(l), e, len(want))
				continue
			}
			for i := range l {
				if !same(l[i], want[i]) {
					t.Errorf("Chain of %v: element %d is %v, want %v", m, i, l[i], want[i])
				}
			}
		}
	}
}

// P3.2: the zero polynomial, other constants, and the example of the chapter.
func TestChainOfSmallPolynomials(t *testing.T) {
	for _, c := range []struct {
		p    api.Poly
		want []model
	}{
		{nil, nil}, {rough(nil), nil}, {poly.Of(0, 0), nil},
		{poly.Of(1), []model{ints(1)}}, {poly.Of(-6), []model{ints(1)}}, {rough(poly.Of(8)), []model{ints(1)}},
		{poly.Of(-2, 0, 1), []model{ints(-2, 0, 1), ints(0, 1), ints(1)}},
		{poly.Of(2, 0, -1), []model{ints(-2, 0, 1), ints(0, 1), ints(1)}},
		{poly.Of(2, 0, 1), []model{ints(2, 0, 1), ints(0, 1), ints(-1)}},
		{poly.Of(6, -4), []model{ints(-3, 2), ints(1)}},
		{poly.Of(0, 0, 0, -5), []model{ints(0, 1), ints(1)}},
	} {
		l, e := sturm.Chain(c.p)
		if e != api.OK || len(l) != len(c.want) {
			t.Error("Chain:", c.p, l, e)
			continue
		}
		for i := range l {
			if !same(l[i], c.want[i]) {
				t.Error("Chain:", c.p, l)
			}
		}
	}
}

// P3.2: elements that are only just not large, and such that are. The derivative
// of the first element may be large, if its primitive form is not.
func TestChainAtTheLimit(t *testing.T) {
	one, zero := big.NewInt(1), new(big.Int)
	top := bit(most - 1)
	for i, c := range []struct {
		m     model
		large bool
	}{
		{model{minus(one), zero, ones(most)}, false},         // x^2 - 1 / (2^8192 - 1)
		{model{one, one, plus(top, -1)}, false},              // the derivative has the coefficient 2^8192 - 2
		{model{one, one, top}, true},                         // and here 2^8192
		{model{one, big.NewInt(2), top}, false},              // which is halved here
		{model{one, plus(top, -1), zero, one}, false},        // the same for the remainder, 2 d x + 3 c
		{model{one, minus(plus(top, -1)), zero, one}, false}, // for x^3 + d x + c
		{model{one, top, zero, one}, true},
		{model{one, minus(top), zero, one}, true},
		{model{big.NewInt(2), top, zero, one}, false},
		{model{plus(top, 5), plus(top, 3), zero, one}, true},
		{model{big.NewInt(-3), top}.by(ints(1, 1)).by(ints(1, 1)), true}, // (2^8191 x - 3) (x + 1)^2: the second element alone
		{model{big.NewInt(-3), plus(top, -1)}.by(ints(1, 1)).by(ints(1, 1)), false},
	} {
		l, e := sturm.Chain(c.m.poly())
		want := c.m.chain()
		if slices.ContainsFunc(want, func(m model) bool { return slices.ContainsFunc(m, func(n *big.Int) bool { return n.BitLen() > most }) }) != c.large {
			t.Fatal("the test's chain:", i)
		}
		if c.large {
			if expectError(t, "Chain", e, api.ErrSize); len(l) != 0 {
				t.Error("elements beside an error:", i, len(l))
			}
			continue
		}
		if e != api.OK || len(l) != len(want) {
			t.Fatal("Chain:", i, e, len(l))
		}
		for j := range l {
			if !same(l[j], want[j]) {
				t.Error("Chain:", i, j)
			}
		}
	}
}

// P3.2: large polynomials, and a long chain with large elements.
func TestChainErrors(t *testing.T) {
	r := rand.New(rand.NewPCG(4, 4))
	l := append(largePolys(), randomModel(r, api.MaxDegree, most).poly(), randomModel(r, 12, 700).poly())
	for _, p := range l {
		c, e := sturm.Chain(p)
		if expectError(t, "Chain", e, api.ErrSize); len(c) != 0 {
			t.Error("elements beside an error:", len(c))
		}
	}
}

// P3.3: Changes, for lists of all sorts: empty, with zero polynomials, with
// elements that are 0 at the place.
func TestChanges(t *testing.T) {
	all := models()
	r := rand.New(rand.NewPCG(5, 5))
	for range 300 {
		var l []model
		var p []api.Poly
		x := dyadic(randomNumber(r, 1+r.IntN(8)), r.IntN(4))
		for range r.IntN(9) {
			m := all[r.IntN(len(all))]
			if r.IntN(3) == 0 { // x is a root
				m = model{minus(value(x.N)), bit(x.E)}.by(m)
			}
			if p := m.poly(); len(m) > api.MaxDegree+1 || slices.ContainsFunc(p, func(a api.Int) bool { return len(a.L) > api.MaxLimbs }) {
				continue // large, by that root
			}
			l = append(l, m)
			p = append(p, rough(m.poly()))
		}
		want := changes(l, rational(x))
		if n, e := sturm.Changes(p, roughDyadic(x)); e != api.OK || n != want {
			t.Error("Changes:", n, e, "want", want, "for", l, x)
		}
	}
}

// P3.3: zeros in the list of signs do not count, wherever they are.
func TestChangesWithZeros(t *testing.T) {
	signs := map[rune]api.Poly{'+': poly.Of(3), '-': poly.Of(-1, 0, 0), '0': nil, 'o': poly.Of(-3, 2)} // the last is 0 at 3/2
	for text, want := range map[string]int{
		"": 0, "+": 0, "0": 0, "o": 0, "+-": 1, "+0-": 1, "+o-": 1, "+0+": 0, "-o0o-": 0, "-o0o+": 1, "0+-": 1, "o-+o": 1, "+-+-": 3, "+0-0+": 2, "++--++": 2, "000": 0,
	} {
		var l []api.Poly
		for _, c := range text {
			l = append(l, signs[c])
		}
		for _, x := range []api.Dyadic{dy(3, 1), dy(6, 2)} {
			if n, e := sturm.Changes(l, x); e != api.OK || n != want {
				t.Errorf("Changes of %s: %d, error %d, want %d", text, n, e, want)
			}
		}
	}
}

// P3.3: the error is that of poly.Sign for the first element that has one.
func TestChangesErrors(t *testing.T) {
	large, line, constant := power(api.MaxDegree+1, big.NewInt(1)).poly(), poly.Of(-1, 2), poly.Of(-4)
	square := poly.Of(-2, 0, 1)
	for _, c := range []struct {
		l    []api.Poly
		x    api.Dyadic
		want api.Errno
	}{
		{nil, dy(1, -1), api.OK},
		{nil, dyadic(bit(most), 0), api.OK},
		{[]api.Poly{large}, dy(1, 1), api.ErrSize},
		{[]api.Poly{line, constant, large}, dy(1, 1), api.ErrSize},
		{[]api.Poly{line, large}, dy(1, -1), api.ErrArg},
		{[]api.Poly{large, line}, dy(1, -1), api.ErrSize},
		{[]api.Poly{nil}, dy(1, -1), api.ErrArg},
		{[]api.Poly{constant}, dy(1, api.MaxShift+1), api.ErrArg},
		{[]api.Poly{constant}, dyadic(bit(most), api.MaxShift+1), api.ErrSize},
		{[]api.Poly{constant, line}, dy(1, api.MaxShift), api.OK},
		{[]api.Poly{constant, line, square}, dy(1, api.MaxShift), api.ErrSize},
		{[]api.Poly{constant, line, square}, dy(1, api.MaxShift-1), api.OK},
		{[]api.Poly{constant, line}, dyadic(ones(most), 1), api.ErrSize},
		{[]api.Poly{constant, line}, dyadic(ones(most), 0), api.OK},
		{[]api.Poly{constant, nil}, dyadic(ones(most), api.MaxShift), api.OK},
	} {
		n, e := sturm.Changes(c.l, c.x)
		if expectError(t, "Changes", e, c.want); e != api.OK && n != 0 {
			t.Error("a number beside an error:", n)
		}
	}
}
