package poly_test

import (
	"math/big"
	"math/rand/v2"
	"slices"
	"testing"

	"pinball/api"
	"pinball/poly"
)

// spare is p with spare capacity in its slice and in those of its elements.
func spare(p api.Poly) api.Poly {
	var r api.Poly
	for _, a := range p {
		l := append(slices.Clone(a.L), 0xabcd, 0xabcd, 0xabcd)
		r = append(r, api.Int{Neg: a.Neg, L: l[:len(a.L)]})
	}
	r = append(r, api.Int{L: []uint32{77}}, api.Int{Neg: true, L: []uint32{88}})
	return r[:len(p)]
}

// all is a copy of p with all of its spare capacity.
func all(p api.Poly) api.Poly {
	r := slices.Clone(p[:cap(p)])
	for i, a := range r {
		r[i].L = slices.Clone(a.L[:cap(a.L)])
	}
	return r
}

// alike reports whether two polynomials have the same elements with the same limbs.
func alike(p, q api.Poly) bool {
	return slices.EqualFunc(p, q, func(a, b api.Int) bool { return a.Neg == b.Neg && slices.Equal(a.L, b.L) })
}

// spoil writes into all memory of a number.
func spoil(a api.Int) {
	l := append(a.L, 0x5a5a5a5a)
	l = l[:cap(l)]
	for i := range l {
		l[i] = 0x5a5a5a5a
	}
	l = a.L[:cap(a.L)]
	for i := range l {
		l[i] = 0x5a5a5a5a
	}
}

// results are the polynomials that the functions return for p and q. The
// content is one as well.
func results(p, q api.Poly) []api.Poly {
	c, _ := poly.Content(p)
	l := []api.Poly{poly.Trim(p), {c}}
	for _, f := range []func(p api.Poly) (api.Poly, api.Errno){poly.Derive, poly.Primitive, poly.Free} {
		r, _ := f(p)
		l = append(l, r)
	}
	for _, f := range []func(p, q api.Poly) (api.Poly, api.Errno){poly.Add, poly.Sub, poly.Mul, poly.Rem, poly.Gcd} {
		r, _ := f(p, q)
		l = append(l, r)
	}
	return l
}

// pairs are polynomials, rough ones and great ones among them.
func pairs() []api.Poly {
	r := rand.New(rand.NewPCG(20, 20))
	l := []api.Poly{nil, poly.Of(1), poly.Of(-6), poly.Of(0, 1), poly.Of(3, -6, 9), poly.Of(1, -2, 1), poly.Of(0, 0, -1, 1), rough(poly.Of(0, 0, -4, 4)), fullModel(r, 2, 5000).poly(), model{minus(ones(most)), big.NewInt(2)}.poly()}
	for i := range 5 {
		l = append(l, fullModel(r, i, 30+90*i).poly(), rough(randomModel(r, 8, 100).poly()))
	}
	return l
}

// R3: arguments stay as they are, including the spare capacity of their slices.
func TestArgumentsStay(t *testing.T) {
	for _, x := range pairs() {
		for _, y := range pairs() {
			p, q := spare(x), spare(y)
			at := api.Dyadic{N: spare(poly.Of(12345))[0], E: 3}
			wantP, wantQ, wantN := all(p), all(q), all(api.Poly{at.N})
			results(p, q)
			poly.Degree(p)
			_, _ = poly.Sign(p, at)
			if !alike(all(p), wantP) || !alike(all(q), wantQ) || !alike(all(api.Poly{at.N}), wantN) {
				t.Fatal("an argument has changed:", x, y)
			}
		}
	}
}

// R3: writing into one element of a result, or appending to it, reaches no other
// element, no argument and no other result.
func TestResultsAreNew(t *testing.T) {
	for _, x := range pairs() {
		for _, y := range pairs() {
			p, q := spare(x), spare(y)
			wantP, wantQ := all(p), all(q)
			want, got := results(p, q), results(p, q)
			for i, r := range got {
				for j := range r {
					spoil(r[j])
					r[j] = want[i][j]
					if !alike(r, want[i]) {
						t.Fatal("an element shares memory with another:", x, y, i, j)
					}
				}
				r = append(r, api.Int{L: []uint32{99}})
				r = r[:cap(r)]
				clear(r)
				for j := i + 1; j < len(got); j++ {
					if !alike(got[j], want[j]) {
						t.Fatal("a result shares memory with another:", x, y, i, j)
					}
				}
			}
			if !alike(all(p), wantP) || !alike(all(q), wantQ) {
				t.Fatal("a result shares memory with an argument:", x, y)
			}
			for i, r := range results(p, q) {
				if !alike(r, want[i]) {
					t.Fatal("a result has changed what another call returns:", x, y, i)
				}
			}
		}
	}
}
