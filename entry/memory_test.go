package entry_test

import (
	"reflect"
	"slices"
	"testing"

	"pinball/api"
	"pinball/entry"
	"pinball/poly"
)

// spare is a copy of p with spare capacity in its slice and in those of its elements.
func spare(p api.Poly) api.Poly {
	r := make(api.Poly, 0, len(p)+2)
	for _, a := range p {
		l := append(slices.Clone(a.L), 0xabcd, 0xabcd)
		r = append(r, api.Int{Neg: a.Neg, L: l[:len(a.L)]})
	}
	return append(r, api.Int{L: []uint32{77}}, api.Int{Neg: true, L: []uint32{88}})[:len(p)]
}

// spareList is a copy of l with spare capacity in all of its slices.
func spareList(l list) list {
	r := each(l, spare)
	for i, c := range r {
		r[i] = append(c, poly.Of(5), poly.Of(0, 6))[:len(c)]
	}
	return append(r, []api.Poly{{}}, nil)[:len(l)]
}

// whole is a copy of what l holds, with all of its spare capacity.
func whole(l list) list {
	r := slices.Clone(l[:cap(l)])
	for i, c := range r {
		r[i] = slices.Clone(c[:cap(c)])
		for j, p := range r[i] {
			r[i][j] = wholePoly(p)
		}
	}
	return r
}

// wholePoly is a copy of what p holds, with all of its spare capacity.
func wholePoly(p api.Poly) api.Poly {
	r := slices.Clone(p[:cap(p)])
	for i, a := range r {
		r[i].L = slices.Clone(a.L[:cap(a.L)])
	}
	return r
}

// arguments are lists whose First is 0, a root, or not there, and a large one.
func arguments() []list {
	quarter, half := poly.Of(-1, 4), poly.Of(-1, 2)
	return []list{
		{{poly.Of(0, 1)}}, {{}}, {{quarter}}, {{by(half, half), quarter}, {half, not(quarter)}}, {{not(by(quarter, half))}, {half, quarter}},
		{{poly.Of(-1, 0, 2), poly.Of(-1, 0, 0, 0, 4)}, {poly.Of(-1, 1)}}, {{by(half, half, half, quarter, quarter)}}, {{poly.Of(-1, 1)}, {not(half), half}},
		{{line(plus(bit(190), 3), plus(bit(199), 7)), poly.Of(5)}}, {{api.Poly{9: api.Int{L: []uint32{1}}}, half}},
	}
}

// R3: arguments stay as they are, including the spare capacity of their slices.
func TestArgumentsStay(t *testing.T) {
	for _, a := range arguments() {
		for _, l := range []list{spareList(a), spareList(each(a, rough))} {
			before := whole(l)
			_, _, _ = entry.First(l)
			_, _ = entry.Within(l)
			if !reflect.DeepEqual(whole(l), before) {
				t.Error("an argument has changed:", a)
			}
		}
	}
	r := api.Root{P: spare(poly.Of(-2, 0, 1)), Lo: dy(0, 0), Hi: api.Dyadic{N: spare(poly.Of(8))[0], E: 2}}
	held := list{{r.P, {r.Hi.N}}}
	before := whole(held)
	if _, e := entry.Sixteenth(r); e != api.OK || !reflect.DeepEqual(whole(held), before) {
		t.Error("Sixteenth has changed its argument:", e, r)
	}
}

// R3: results are new memory.
func TestResultsAreNew(t *testing.T) {
	for _, a := range arguments() {
		l := spareList(a)
		before := whole(l)
		r, _, _ := entry.First(l)
		want, _, _ := entry.First(l)
		for _, p := range []api.Poly{r.P, {r.Lo.N}, {r.Hi.N}} {
			for _, c := range p {
				clear(c.L[:cap(c.L)])
			}
			clear(p[:cap(p)])
		}
		if again, _, _ := entry.First(l); !reflect.DeepEqual(again, want) || !reflect.DeepEqual(whole(l), before) {
			t.Error("a result shares memory:", a)
		}
	}
}

// R3: the parts of a result share no memory with each other.
func TestPartsOfResults(t *testing.T) {
	for _, a := range arguments() {
		r, _, _ := entry.First(a)
		l := append(slices.Clone(r.P), r.Lo.N, r.Hi.N)
		for i, c := range l {
			rest := list{{wholePoly(l[i+1:])}}
			clear(c.L[:cap(c.L)])
			_ = append(c.L, 99)
			if !reflect.DeepEqual(list{{wholePoly(l[i+1:])}}, rest) {
				t.Error("parts of a result share memory:", a)
			}
		}
	}
}
