package root_test

import (
	"slices"
	"testing"

	"pinball/api"
	"pinball/poly"
	"pinball/root"
)

// spareInt is a with spare capacity.
func spareInt(a api.Int) api.Int {
	l := append(slices.Clone(a.L), 0xabcd, 0xabcd, 0xabcd)
	return api.Int{Neg: a.Neg, L: l[:len(a.L)]}
}

// sparePoly is p with spare capacity in its slice and in those of its elements.
func sparePoly(p api.Poly) api.Poly {
	var r api.Poly
	for _, a := range p {
		r = append(r, spareInt(a))
	}
	return append(r, api.Int{L: []uint32{77}}, api.Int{Neg: true, L: []uint32{88}})[:len(p)]
}

// spareRoot is r with spare capacity in all of its slices.
func spareRoot(r api.Root) api.Root {
	return api.Root{P: sparePoly(r.P), Lo: api.Dyadic{N: spareInt(r.Lo.N), E: r.Lo.E}, Hi: api.Dyadic{N: spareInt(r.Hi.N), E: r.Hi.E}}
}

// all is a copy of what r holds, with all of its spare capacity.
func all(r api.Root) api.Poly {
	l := append(slices.Clone(r.P[:cap(r.P)]), r.Lo.N, r.Hi.N)
	for i, a := range l {
		l[i].L = slices.Clone(a.L[:cap(a.L)])
	}
	return l
}

// spoil writes into all memory of a number, and behind it.
func spoil(a api.Int) {
	_ = append(a.L, 0x5a5a5a5a)
	l := a.L[:cap(a.L)]
	for i := range l {
		l[i] = 0x5a5a5a5a
	}
}

// R3: arguments stay as they are, including the spare capacity of their slices.
func TestArgumentsStay(t *testing.T) {
	for _, r := range append(refinable(), badRoots()...) {
		for _, s := range []api.Root{spareRoot(r), spareRoot(roughRoot(r))} {
			want := all(s)
			other := spareRoot(api.Root{P: poly.Of(-7, 5), Lo: dy(1, 0), Hi: dy(3, 1)})
			wantOther := all(other)
			_ = root.Valid(s)
			_, _ = root.Of(s.Lo)
			_, _ = root.Isolate(s.P, s.Lo, s.Hi)
			_, _ = root.Refine(s, 9)
			_, _ = root.Cmp(s, other)
			_, _ = root.Cmp(other, s)
			_, _ = root.CmpDyadic(s, other.Hi)
			_, _ = root.CmpDyadic(other, s.Hi)
			_, _ = root.Floor(s, 5)
			_, _ = root.Sign(s, other.P)
			_, _ = root.Sign(other, s.P)
			if !alike(all(s), want) || !alike(all(other), wantOther) {
				t.Fatal("an argument has changed:", r)
			}
		}
	}
}

// parts are the numbers that l holds.
func parts(l []api.Root) api.Poly {
	var all api.Poly
	for _, r := range l {
		all = append(append(all, r.P...), r.Lo.N, r.Hi.N)
	}
	return all
}

// copied is a copy of p.
func copied(p api.Poly) api.Poly {
	r := slices.Clone(p)
	for i, a := range r {
		r[i].L = slices.Clone(a.L)
	}
	return r
}

// checkNew checks that no part of the Roots that a call returns shares memory with
// another part, with another result or with what the call is given.
func checkNew(t *testing.T, given api.Root, call func() []api.Root) {
	t.Helper()
	before := all(given)
	got := call()
	l := parts(got)
	want := copied(l)
	for i, a := range l {
		if spoil(a); !alike(l[i+1:], want[i+1:]) {
			t.Fatal("parts of results share memory:", given, i)
		}
	}
	for i, r := range got {
		clear(append(r.P, api.Int{L: []uint32{99}}))
		clear(r.P[:cap(r.P)])
		for _, s := range got[i+1:] {
			if len(s.P[len(s.P)-1].L) == 0 {
				t.Fatal("polynomials of results share memory:", given, i)
			}
		}
	}
	if !alike(parts(call()), want) {
		t.Fatal("a result has changed what another call returns:", given)
	}
	if !alike(all(given), before) {
		t.Fatal("a result shares memory with an argument:", given)
	}
}

// R3: results are new memory.
func TestResultsAreNew(t *testing.T) {
	for _, r := range refinable() {
		for _, s := range []api.Root{spareRoot(r), spareRoot(roughRoot(r))} {
			for _, steps := range []int{0, 1, 5} {
				checkNew(t, s, func() []api.Root {
					q, _ := root.Refine(s, steps)
					return []api.Root{q}
				})
			}
			checkNew(t, s, func() []api.Root {
				q, _ := root.Of(s.Lo)
				return []api.Root{q}
			})
			checkNew(t, s, func() []api.Root {
				l, _ := root.Isolate(s.P, dy(-100, 0), dy(100, 0))
				return l
			})
			first, _ := root.Floor(s, 0)
			second, _ := root.Floor(s, 0)
			before := all(s)
			spoil(second)
			third, _ := root.Floor(s, 0)
			if !alike(api.Poly{first}, api.Poly{third}) || !alike(all(s), before) {
				t.Fatal("Floor shares memory:", r)
			}
		}
	}
}
