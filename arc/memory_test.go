package arc_test

import (
	"slices"
	"testing"

	"pinball/api"
	"pinball/arc"
)

// alike reports whether two results have the same elements with the same limbs.
func alike(a, b [][]api.Poly) bool {
	same := func(a, b api.Int) bool { return a.Neg == b.Neg && slices.Equal(a.L, b.L) }
	polys := func(p, q api.Poly) bool { return slices.EqualFunc(p, q, same) }
	return slices.EqualFunc(a, b, func(c, d []api.Poly) bool { return slices.EqualFunc(c, d, polys) })
}

// spoil writes into all memory of a number.
func spoil(a api.Int) {
	l := a.L[:cap(a.L)]
	for i := range l {
		l[i] = 0x5a5a5a5a
	}
}

// expectSeparate checks that writing into one part of a result, or appending to it,
// reaches no other part, and nothing that another call returns.
func expectSeparate(t *testing.T, call func() [][]api.Poly) {
	t.Helper()
	want, l := call(), call()
	for i, c := range l {
		for j, p := range c {
			for k := range p {
				spoil(p[k])
				p[k] = want[i][j][k]
				expect(t, alike(l, want), true, "the result without element", i, j, k, "stays")
			}
			p = append(p, api.Int{L: []uint32{99}})
			clear(p[:cap(p)])
			c[j] = want[i][j]
			expect(t, alike(l, want), true, "the result without polynomial", i, j, "stays")
		}
		c = append(c, api.Poly{{}})
		clear(c[:cap(c)])
		l[i] = want[i]
		expect(t, alike(l, want), true, "the result without conjunction", i, "stays")
	}
	clear(l[:cap(l)])
	expect(t, alike(call(), want), true, "the same result again")
}

// R3: the results of Conditions are new memory, and their parts share none.
func TestResultsAreNew(t *testing.T) {
	for _, m := range []api.Motion{{}, fly(1, 1, 1, 1, 1, 1), fly(100, 9, -8, 7, 0, -4), fly(place, -place, -velocity, velocity, half, -half)} {
		for _, a := range arcs() {
			for _, reach := range []int{1, length(minus(a.S, a.C)) - 1} {
				expectSeparate(t, func() [][]api.Poly { return arc.Conditions(m, a, reach) })
			}
		}
	}
}

// R5: the same arguments have the same results again, whatever was called in between.
func TestSameAgain(t *testing.T) {
	m := fly(100, 9, -8, 7, 0, -4)
	for _, a := range arcs() {
		conditions, normal, in := arc.Conditions(m, a, 1), arc.Normal(m.P, a), arc.Inside(a.S, a, 1)
		for _, o := range arcs() {
			arc.Conditions(fly(1, 2, 3, 4, 5, 6), o, 4)
			arc.Normal(vec(7, 8), o)
			expect(t, alike(arc.Conditions(m, a, 1), conditions), true, "the same Conditions")
			expect(t, arc.Normal(m.P, a), normal, "the same Normal")
			expect(t, arc.Inside(a.S, a, 1), in, "the same Inside")
		}
	}
}
