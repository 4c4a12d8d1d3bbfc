package wide

import (
	"math/big"
	"math/rand/v2"
	"slices"
	"testing"

	"pinball/api"
	"pinball/integer"
)

// full has the degree n, and coefficients of up to the given number of digits and of both signs.
func full(r *rand.Rand, n, digits int) Poly {
	p := make(Poly, n+1)
	for i := range p {
		p[i] = extreme(r, digits)
		for i == n && p[i].Sign() == 0 {
			p[i] = extreme(r, digits)
		}
		if r.IntN(2) == 0 {
			p[i] = p[i].Negative()
		}
	}
	return p
}

// worths are what the coefficients stand for.
func worths(p Poly) []*big.Int {
	l := make([]*big.Int, len(p))
	for i, c := range p {
		l[i] = worth(c)
	}
	return l
}

// checkPoly compares a polynomial with the coefficients that it should have.
func checkPoly(t *testing.T, what string, p Poly, want []*big.Int) {
	t.Helper()
	for len(want) > 0 && want[len(want)-1].Sign() == 0 {
		want = want[:len(want)-1]
	}
	if len(p) != len(want) {
		t.Fatalf("%s: degree %d, want %d", what, len(p)-1, len(want)-1)
	}
	for i, c := range p {
		check(t, what, c, want[i])
	}
}

// P2.5 and P3.4 rest on remainders: they are those of p times the promised power.
func TestRemainder(t *testing.T) {
	r := rand.New(rand.NewPCG(11, 11))
	for i := range 150 {
		q := full(r, 1+i%4, 2)
		p := full(r, i%7, 3)
		if i%5 == 0 && len(p) > 1 { // the degree of what is left falls by two at once
			p[len(p)-2], q[len(q)-2] = nil, nil
		}
		k := max(0, len(p)-len(q)+1)
		power := q[len(q)-1].Absolute().Power(k)
		rest := p.Remainder(q)
		if len(rest) >= len(q) {
			t.Fatal("the degree of a remainder:", len(rest)-1, len(q)-1)
		}
		// p times the power, less the rest, is a multiple of q.
		multiple := p.Times(Poly{power})
		for j, c := range rest {
			multiple[j] = multiple[j].Plus(c.Negative())
		}
		multiple = multiple.cut()
		if len(multiple) == 0 {
			continue
		}
		s := multiple.Quotient(q)
		checkPoly(t, "quotient times divisor", s.Times(q), worths(multiple))
	}
	if rest := full(r, 5, 3).Remainder(full(r, 0, 3)); len(rest) != 0 {
		t.Error("the remainder of a constant:", rest)
	}
}

// The signs of remainders do not depend on the sign of the divisor.
func TestRemainderOfNegativeDivisor(t *testing.T) {
	r := rand.New(rand.NewPCG(12, 12))
	for i := range 60 {
		p, q := full(r, i%6, 2), full(r, 1+i%3, 2)
		checkPoly(t, "remainder of -q", p.Remainder(q.Negative()), worths(p.Remainder(q)))
		checkPoly(t, "remainder of -p", p.Negative().Remainder(q), worths(p.Remainder(q).Negative()))
	}
}

// P2.2, P2.6: products, and what is left of them when a factor is taken away.
func TestQuotient(t *testing.T) {
	r := rand.New(rand.NewPCG(13, 13))
	for i := range 100 {
		p, q := full(r, i%6, 2), full(r, i%4, 3)
		product := p.Times(q)
		checkPoly(t, "quotient", product.Quotient(q), worths(p))
		checkPoly(t, "quotient", product.Quotient(p), worths(q))
		c := full(r, 0, 4)[0]
		checkPoly(t, "share", p.Times(Poly{c}).Share(c), worths(p))
	}
	if p := full(r, 3, 2); len(p.Times(nil)) != 0 || len(Poly{}.Times(p)) != 0 {
		t.Error("the product with the zero polynomial")
	}
}

// P2.2: derivatives.
func TestDerivative(t *testing.T) {
	r := rand.New(rand.NewPCG(14, 14))
	for i := range 40 {
		p := full(r, i%9, 3)
		var want []*big.Int
		for j, c := range p {
			if j > 0 {
				want = append(want, new(big.Int).Mul(worth(c), big.NewInt(int64(j))))
			}
		}
		checkPoly(t, "derivative", p.Derivative(), want)
	}
}

// P2.3, P3.4: signs of values, at any place.
func TestSignOfValues(t *testing.T) {
	r := rand.New(rand.NewPCG(15, 15))
	for i := range 150 {
		n := extreme(r, 4)
		if r.IntN(2) == 0 {
			n = n.Negative()
		}
		e := r.IntN(api.MaxShift + 1)
		p := full(r, i%6, 3)
		if r.IntN(3) == 0 { // a root
			p = p.Times(Poly{n.Negative(), Of(api.Int{L: []uint32{1}}).Raised(e)})
		}
		at := api.Dyadic{N: narrowed(t, n), E: e}
		if got, want := p.Sign(at), signOf(worths(p), worth(n), e); got != want {
			t.Fatal("sign:", got, want, worths(p), worth(n), e)
		}
	}
	if (Poly{}).Sign(api.Dyadic{}) != 0 {
		t.Error("the sign of the zero polynomial")
	}
}

// P3.4, P4.4: signs just behind a place, which may be a root that occurs more than once.
func TestSignBehind(t *testing.T) {
	r := rand.New(rand.NewPCG(17, 17))
	for i := range 200 {
		n, e := r.Int64N(31)-15, r.IntN(5)
		p := full(r, i%4, 1+i%2)
		for range r.IntN(4) {
			p = p.Times(Poly{Of(integer.Of(int(-n))), Of(integer.Of(1 << e))})
		}
		at := api.Dyadic{N: integer.Of(int(n)), E: e}
		behind := new(big.Int).Lsh(big.NewInt(n), 20000)
		behind.Add(behind, big.NewInt(1))
		if got, want := p.SignBehind(at), signOf(worths(p), behind, e+20000); got != want {
			t.Fatal("sign behind:", got, want, worths(p), n, e)
		}
	}
}

// signOf is the sign of a value, by its definition.
func signOf(p []*big.Int, n *big.Int, e int) int {
	x := new(big.Rat).SetFrac(n, new(big.Int).Lsh(big.NewInt(1), uint(e)))
	sum := new(big.Rat)
	for _, c := range slices.Backward(p) {
		sum.Mul(sum, x)
		sum.Add(sum, new(big.Rat).SetInt(c))
	}
	return sum.Sign()
}

// narrowed is an Int of package api.
func narrowed(t *testing.T, x Int) api.Int {
	t.Helper()
	a, e := x.Narrow()
	if e != api.OK {
		t.Fatal("narrow:", e)
	}
	return a
}

// P2.4, P2.5: contents and primitive forms, which may be too large.
func TestContentAndPrimitive(t *testing.T) {
	r := rand.New(rand.NewPCG(16, 16))
	for i := range 60 {
		p := full(r, i%5, 1+i%4).Times(Poly{full(r, 0, 1+i%6)[0].Absolute()})
		want := new(big.Int)
		for _, c := range worths(p) {
			want.GCD(nil, nil, want, c.Abs(c))
		}
		check(t, "content", p.Content(), want)
		most := 0
		for _, c := range worths(p) {
			most = max(most, c.Quo(c, want).BitLen())
		}
		q, e := p.Primitive()
		if (e == api.OK) != (most <= maxBits) {
			t.Fatal("primitive:", most, e)
		}
		if e == api.OK {
			checkPoly(t, "primitive", OfPoly(q), worths(p.Share(p.Content())))
		}
	}
}
