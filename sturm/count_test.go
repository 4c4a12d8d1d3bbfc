package sturm_test

import (
	"math/big"
	"math/rand/v2"
	"testing"

	"pinball/api"
	"pinball/poly"
	"pinball/sturm"
)

// factor is a polynomial whose real roots are known: for each of them there is
// a function that compares it with a number.
type factor struct {
	m     model
	roots []func(x *big.Rat) int
}

// line has the root n / d.
func line(n, d *big.Int) factor {
	root := new(big.Rat).SetFrac(n, d)
	return factor{model{minus(n), d}, []func(x *big.Rat) int{root.Cmp}}
}

// square has the roots of n, which is not a square of an integer, as its own.
func square(n *big.Int) factor {
	positive := func(x *big.Rat) int {
		if x.Sign() < 0 {
			return 1
		}
		return new(big.Rat).SetInt(n).Cmp(new(big.Rat).Mul(x, x))
	}
	negative := func(x *big.Rat) int { return -positive(new(big.Rat).Neg(x)) }
	return factor{model{minus(n), new(big.Int), big.NewInt(1)}, []func(x *big.Rat) int{positive, negative}}
}

// round has no real roots.
func round(n *big.Int) factor {
	return factor{m: model{plus(new(big.Int).Mul(n, n), 1), new(big.Int), big.NewInt(3)}}
}

// expectCount checks the number of roots between a and b.
func expectCount(t *testing.T, p api.Poly, a, b api.Dyadic, want int) {
	t.Helper()
	if n, e := sturm.Count(p, a, b); e != api.OK || n != want {
		t.Errorf("Count: %d, error %d, want %d", n, e, want)
	}
}

// checkFactors compares Count with the known roots of a product. The factors may
// occur more than once, but different factors have different roots.
func checkFactors(t *testing.T, l []factor, times []int, a, b api.Dyadic) {
	t.Helper()
	p, want := ints(-1), 0
	for i, f := range l {
		for range times[i] {
			p = p.by(f.m)
		}
		for _, root := range f.roots {
			if root(rational(a)) > 0 && root(rational(b)) <= 0 {
				want++
			}
		}
	}
	expectCount(t, p.poly(), a, b, want)
	expectCount(t, rough(p.poly()), roughDyadic(a), roughDyadic(b), want)
}

// P3.4: Count, for products of factors whose roots are known. Some of the places
// are roots themselves, and some roots occur more than once.
func TestCountOfKnownRoots(t *testing.T) {
	r := rand.New(rand.NewPCG(6, 6))
	for range 400 {
		var l []factor
		var times []int
		used := map[string]bool{}
		degree := 0
		for range r.IntN(6) {
			n, d := r.Int64N(41)-20, 1+r.Int64N(4)
			f := line(big.NewInt(n), big.NewInt(d))
			key := big.NewRat(n, d).String()
			switch r.IntN(4) {
			case 0:
				f = square(big.NewInt(n*n + 2))
				key = "square" + big.NewInt(n*n).String()
			case 1:
				f = round(big.NewInt(n))
			}
			k := 1 + r.IntN(3)
			if degree+k*(len(f.m)-1) > api.MaxDegree || used[key] {
				continue
			}
			used[key] = true
			degree += k * (len(f.m) - 1)
			l, times = append(l, f), append(times, k)
		}
		for range 8 {
			a, b := dy(r.Int64N(61)-30, r.IntN(4)), dy(r.Int64N(61)-30, r.IntN(4))
			if rational(a).Cmp(rational(b)) > 0 {
				a, b = b, a
			}
			checkFactors(t, l, times, a, b)
		}
		checkFactors(t, l, times, dy(-1<<40, 0), dy(1<<40, 0))
	}
}

// P3.4: a root at a does not count, and one at b does, however often it occurs.
func TestCountAtRoots(t *testing.T) {
	for n := int64(1); n <= 5; n++ {
		for k := range 4 {
			p := ints(1)
			for range k + 1 {
				p = p.by(ints(-n, 2)) // n / 2
			}
			p = p.by(ints(-40, 1)).by(ints(100, 1))
			at := []api.Dyadic{dy(n-1, 1), dy(n, 1), dy(n+1, 1), dy(16*n, 5)}
			expectCount(t, p.poly(), at[0], at[1], 1)
			expectCount(t, p.poly(), at[1], at[2], 0)
			expectCount(t, p.poly(), at[0], at[2], 1)
			expectCount(t, p.poly(), at[0], at[0], 0)
			expectCount(t, p.poly(), at[1], at[1], 0)
			expectCount(t, p.poly(), at[1], at[3], 0)
			expectCount(t, p.poly(), at[1], dy(40, 0), 1)
			expectCount(t, p.poly(), dy(-100, 0), at[1], 1)
			expectCount(t, p.poly(), dy(-200, 1), dy(80, 1), 2)
			expectCount(t, p.poly(), dy(-201, 1), dy(80, 1), 3)
			expectCount(t, p.poly(), dy(-201, 1), dy(79, 1), 2)
		}
	}
}

// P3.4: constants, the examples of the chapter, and other small polynomials.
func TestCountOfSmallPolynomials(t *testing.T) {
	for _, c := range []struct {
		p    api.Poly
		a, b api.Dyadic
		want int
	}{
		{poly.Of(-2, 0, 1), dy(0, 0), dy(2, 0), 1},
		{poly.Of(0, -1, 1), dy(0, 0), dy(1, 0), 1},
		{poly.Of(5), dy(-9, 0), dy(9, 0), 0},
		{rough(poly.Of(-5)), dy(-9, 0), dy(9, 0), 0},
		{poly.Of(5), dy(1, 1), dy(1, 1), 0},
		{poly.Of(0, 3), dy(-1, 0), dy(0, 0), 1},
		{poly.Of(0, 3), dy(0, 5), dy(1, 0), 0},
		{poly.Of(0, 0, 0, 0, 0, -3), dy(-1, 4000), dy(0, 3), 1},
		{poly.Of(1, 0, 1), dy(-9, 0), dy(9, 0), 0},
		{poly.Of(0, -1, 0, 1), dy(-1, 0), dy(2, 0), 2},
		{poly.Of(0, -1, 0, 1), dy(-2, 0), dy(2, 0), 3},
	} {
		expectCount(t, c.p, c.a, c.b, c.want)
	}
}

// P3.4, P3.5: Count is what the chain of the definition tells.
func TestCountIsTheDifferenceOfChanges(t *testing.T) {
	r := rand.New(rand.NewPCG(7, 7))
	for _, m := range models() {
		if len(m) == 0 {
			continue
		}
		l, e := sturm.Chain(m.poly())
		if e != api.OK {
			t.Fatal("Chain:", e)
		}
		for i := range 12 {
			n := 1 + r.IntN(1+20*i)
			a, b := dyadic(randomNumber(r, n), r.IntN(n)), dyadic(randomNumber(r, n), r.IntN(n))
			if c, _ := sturm.Cmp(a, b); c > 0 {
				a, b = b, a
			}
			x, e := sturm.Changes(l, a)
			y, f := sturm.Changes(l, b)
			want := changes(m.chain(), rational(a)) - changes(m.chain(), rational(b))
			if e != api.OK || f != api.OK || x-y != want {
				t.Errorf("Changes: %d, %d, errors %d, %d, want a difference of %d", x, y, e, f, want)
			}
			expectCount(t, m.poly(), a, b, want)
		}
	}
}

// P3.4: all numbers that are valid are counted between, also where their
// values, or the elements of the chain, are large.
func TestCountAtTheLimits(t *testing.T) {
	least, greatest := dyadic(minus(ones(most)), 0), dyadic(ones(most), 0)
	tiny, tinyNegative := dy(1, api.MaxShift), dy(-1, api.MaxShift)
	p := poly.Of(-2, 0, 1)
	expectCount(t, p, tiny, dy(2, 0), 1)
	expectCount(t, p, least, greatest, 2)
	expectCount(t, p, dyadic(minus(ones(most)), api.MaxShift), dyadic(ones(most), api.MaxShift), 2)
	expectCount(t, power(api.MaxDegree, big.NewInt(1)).poly(), tinyNegative, tiny, 1)
	expectCount(t, power(api.MaxDegree, big.NewInt(1)).poly(), tinyNegative, dy(0, 0), 1)
	expectCount(t, power(api.MaxDegree, ones(most)).poly(), dy(0, 9), tiny, 0)
	// The square root of 2, to 4,096 digits, is between these.
	root := new(big.Int).Sqrt(bit(2*api.MaxShift + 1))
	expectCount(t, p, dyadic(root, api.MaxShift), dyadic(plus(root, 1), api.MaxShift), 1)
	expectCount(t, p, dyadic(plus(root, -1), api.MaxShift), dyadic(root, api.MaxShift), 0)
	expectCount(t, p, dyadic(plus(root, 1), api.MaxShift), greatest, 0)

	r := rand.New(rand.NewPCG(8, 8))
	numbers := func(n, digits int) (l []factor, times []int) {
		for range n {
			l = append(l, line(plus(randomNumber(r, digits), r.Int64()), bit(r.IntN(digits))))
			times = append(times, 1)
		}
		return l, times
	}
	for _, c := range []struct{ n, digits int }{{2, 4000}, {3, 2000}, {5, 800}, {8, 400}, {12, 90}, {16, 50}} {
		l, times := numbers(c.n, c.digits)
		for _, f := range l { // from one root to another
			a, b := rootOf(l[0]), rootOf(f)
			if rational(a).Cmp(rational(b)) > 0 {
				a, b = b, a
			}
			checkFactors(t, l, times, a, b)
		}
		checkFactors(t, l, times, least, greatest)
		checkFactors(t, l, times, tinyNegative, greatest)
	}
	l, times := numbers(3, 700)
	times[1], times[2] = 2, 5
	checkFactors(t, l, times, least, rootOf(l[1]))
	checkFactors(t, l, times, least, rootOf(l[2]))
	checkFactors(t, append(l, round(ones(300))), append(times, 2), least, greatest)
}

// rootOf is the root of a line.
func rootOf(f factor) api.Dyadic {
	return dyadic(minus(f.m[0]), f.m[1].BitLen()-1)
}

// P3.4: polynomials with large elements in their chains, whose roots nobody chose.
func TestCountWithLargeElements(t *testing.T) {
	r := rand.New(rand.NewPCG(9, 9))
	for _, c := range []struct{ degree, digits int }{{3, most}, {4, 5000}, {6, 3000}, {9, 1200}, {16, 600}} {
		m := randomModel(r, c.degree, c.digits)
		if _, e := sturm.Chain(m.poly()); e != api.ErrSize {
			t.Fatal("the test's chain is not large:", c)
		}
		l := m.chain()
		all := []api.Dyadic{dyadic(minus(bit(3000)), 0), dy(-1, 0), dy(-1, 3), dy(0, 0), dy(1, 1), dy(1, 0), dy(3, 1), dyadic(bit(3000), 0)}
		for i, b := range all {
			for _, a := range []api.Dyadic{all[0], all[max(0, i-1)]} {
				expectCount(t, m.poly(), a, b, changes(l, rational(a))-changes(l, rational(b)))
			}
		}
	}
}

// P3.4: the errors, in their order.
func TestCountErrors(t *testing.T) {
	good, bad := []api.Dyadic{dy(0, 0), dy(1, 0), dy(5, 3)}, badDyadics()
	check := func(p api.Poly, a, b api.Dyadic, want api.Errno) {
		t.Helper()
		n, e := sturm.Count(p, a, b)
		if expectError(t, "Count", e, want); n != 0 {
			t.Error("a number beside an error:", n)
		}
	}
	for _, x := range bad {
		for _, y := range append(good, bad...) {
			for _, p := range largePolys() {
				check(p, x, y, api.ErrSize)
				check(p, y, x, api.ErrSize)
			}
			for _, p := range []api.Poly{nil, {}, {{}}, rough(nil)} {
				check(p, x, y, api.ErrZero)
				check(p, y, x, api.ErrZero)
			}
			for _, p := range []api.Poly{poly.Of(1), poly.Of(-3, 1), rough(poly.Of(-2, 0, 1))} {
				check(p, x, y, api.ErrArg)
				check(p, y, x, api.ErrArg)
			}
		}
	}
	for _, p := range largePolys() {
		check(p, dy(0, 0), dy(1, 0), api.ErrSize)
		check(p, dy(1, 0), dy(0, 0), api.ErrSize)
	}
	check(nil, dy(0, 0), dy(1, 0), api.ErrZero)
	check(rough(nil), dy(1, 0), dy(0, 0), api.ErrZero)
	for _, p := range []api.Poly{poly.Of(7), poly.Of(-3, 1), poly.Of(-2, 0, 1)} {
		check(p, dy(1, 0), dy(0, 0), api.ErrArg)
		check(p, dy(1, 1), dy(1, 2), api.ErrArg)
		check(p, dy(1, api.MaxShift-1), dy(1, api.MaxShift), api.ErrArg)
		check(p, dyadic(ones(most), 0), dyadic(minus(ones(most)), 0), api.ErrArg)
	}
}
