package sturm_test

import (
	"slices"
	"testing"

	"pinball/api"
	"pinball/poly"
	"pinball/sturm"
)

// spareInt is a with spare capacity.
func spareInt(a api.Int) api.Int {
	l := append(slices.Clone(a.L), 0xabcd, 0xabcd, 0xabcd)
	return api.Int{Neg: a.Neg, L: l[:len(a.L)]}
}

// sparePoly is p with spare capacity in its slice and in those of its elements.
func sparePoly(p api.Poly) api.Poly {
	var r api.Poly
	for _, a := range p {
		r = append(r, spareInt(a))
	}
	return append(r, api.Int{L: []uint32{77}}, api.Int{Neg: true, L: []uint32{88}})[:len(p)]
}

// all is a copy of p with all of its spare capacity.
func all(p api.Poly) api.Poly {
	r := slices.Clone(p[:cap(p)])
	for i, a := range r {
		r[i].L = slices.Clone(a.L[:cap(a.L)])
	}
	return r
}

// alike reports whether two polynomials have the same elements with the same limbs.
func alike(p, q api.Poly) bool {
	return slices.EqualFunc(p, q, func(a, b api.Int) bool { return a.Neg == b.Neg && slices.Equal(a.L, b.L) })
}

// spoil writes into all memory of a number, and behind it.
func spoil(a api.Int) {
	_ = append(a.L, 0x5a5a5a5a)
	l := a.L[:cap(a.L)]
	for i := range l {
		l[i] = 0x5a5a5a5a
	}
}

// R3: arguments stay as they are, including the spare capacity of their slices.
func TestArgumentsStay(t *testing.T) {
	x, y := dy(-12345, 7), dyadic(bit(100), 3)
	for _, m := range models() {
		for _, p := range []api.Poly{sparePoly(m.poly()), sparePoly(rough(m.poly()))} {
			a, b := api.Dyadic{N: spareInt(x.N), E: x.E}, api.Dyadic{N: spareInt(y.N), E: y.E}
			wantP, wantN := all(p), all(api.Poly{a.N, b.N})
			l := []api.Poly{p, p}
			_, _ = sturm.Chain(p)
			_, _ = sturm.Changes(l[:1], a)
			_, _ = sturm.Count(p, a, b)
			_, _ = sturm.Cmp(a, b)
			_, _ = sturm.Middle(a, b)
			if !alike(all(p), wantP) || !alike(all(api.Poly{a.N, b.N}), wantN) || !alike(l[1], p) {
				t.Fatal("an argument has changed:", m)
			}
		}
	}
}

// R3: writing into an element of a chain, or appending to it, reaches no other
// element, no argument and no other result.
func TestChainIsNew(t *testing.T) {
	for _, m := range models() {
		p := sparePoly(m.poly())
		before := all(p)
		want, _ := sturm.Chain(p)
		got, _ := sturm.Chain(p)
		for i, q := range got {
			for j := range q {
				spoil(q[j])
				q[j] = want[i][j]
				for k := i; k < len(got); k++ { // those before it are cleared
					if !alike(got[k], want[k]) {
						t.Fatal("an element shares memory with another:", m, i, j, k)
					}
				}
			}
			clear(append(q, api.Int{L: []uint32{99}}))
			clear(q[:cap(q)])
			for k := i + 1; k < len(got); k++ {
				if !alike(got[k], want[k]) {
					t.Fatal("an element shares memory with another:", m, i, k)
				}
			}
		}
		again, _ := sturm.Chain(p)
		for i := range again {
			if !alike(again[i], want[i]) {
				t.Fatal("a result has changed what another call returns:", m, i)
			}
		}
		if !alike(all(p), before) {
			t.Fatal("a result shares memory with an argument:", m)
		}
	}
	one, _ := sturm.Chain(poly.Of(5))
	spoil(one[0][0])
	if again, _ := sturm.Chain(poly.Of(5)); !same(again[0], ints(1)) {
		t.Error("a result has changed what another call returns:", again)
	}
}

// R3: the same for the middle.
func TestMiddleIsNew(t *testing.T) {
	for _, x := range goodDyadics() {
		for _, y := range []api.Dyadic{x, {}, dy(7, 0)} {
			a, b := api.Dyadic{N: spareInt(x.N), E: x.E}, api.Dyadic{N: spareInt(y.N), E: y.E}
			want := all(api.Poly{a.N, b.N})
			first, _ := sturm.Middle(a, b)
			second, _ := sturm.Middle(a, b)
			spoil(second.N)
			third, _ := sturm.Middle(a, b)
			if !alike(api.Poly{first.N}, api.Poly{third.N}) || !alike(all(api.Poly{a.N, b.N}), want) {
				t.Fatal("the middle shares memory:", x, y)
			}
		}
	}
}
