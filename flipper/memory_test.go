package flipper_test

import (
	"slices"
	"testing"

	"pinball/api"
	"pinball/flipper"
)

// alike reports whether two results have the same elements with the same limbs.
func alike(a, b [][]api.Poly) bool {
	same := func(a, b api.Int) bool { return a.Neg == b.Neg && slices.Equal(a.L, b.L) }
	polys := func(p, q api.Poly) bool { return slices.EqualFunc(p, q, same) }
	return slices.EqualFunc(a, b, func(c, d []api.Poly) bool { return slices.EqualFunc(c, d, polys) })
}

// spoil writes into all memory of a number.
func spoil(a api.Int) {
	l := a.L[:cap(a.L)]
	for i := range l {
		l[i] = 0x5a5a5a5a
	}
}

// expectSeparate checks that writing into one part of a result, or appending to it,
// reaches no other part, and nothing that another call returns.
func expectSeparate(t *testing.T, call func() [][]api.Poly) {
	t.Helper()
	want, l := call(), call()
	for i, c := range l {
		for j, p := range c {
			for k := range p {
				spoil(p[k])
				p[k] = want[i][j][k]
				expect(t, alike(l, want), true, "the result without element", i, j, k, "stays")
			}
			p = append(p, api.Int{L: []uint32{99}})
			clear(p[:cap(p)])
			c[j] = want[i][j]
			expect(t, alike(l, want), true, "the result without polynomial", i, j, "stays")
		}
		c = append(c, api.Poly{{}})
		clear(c[:cap(c)])
		l[i] = want[i]
		expect(t, alike(l, want), true, "the result without conjunction", i, "stays")
	}
	clear(l[:cap(l)])
	expect(t, alike(call(), want), true, "the same result again")
}

// R3: the results of Conditions are new memory, and their parts share none.
func TestResultsAreNew(t *testing.T) {
	for _, m := range []api.Motion{{}, fly(1, 1, 1, 1, 1, 1), fly(100, 9, -8, 7, 0, -4), fly(place, -place, -velocity, velocity, half, -half)} {
		for _, move := range moves() {
			for _, c := range changes() {
				for _, reach := range []int{1, 100, far} {
					expectSeparate(t, func() [][]api.Poly {
						return flipper.Conditions(m, c.flipper(bat(vec(7, -9), 500)), move[0], move[1], reach)
					})
				}
			}
		}
	}
}

// R5: the same arguments have the same results again, whatever was called in between.
func TestSameAgain(t *testing.T) {
	m := fly(100, 9, -8, 7, 0, -4)
	f := bat(vec(7, -9), 500)
	for _, move := range moves() {
		from, to := move[0], move[1]
		conditions, normal, in := flipper.Conditions(m, f, from, to, 50), flipper.Normal(m.P, f, from, to, 5), flipper.Inside(m.P, f, from, 50)
		for _, o := range moves() {
			g := changes()[1].flipper(bat(vec(3, 4), 600))
			flipper.Conditions(fly(1, 2, 3, 4, 5, 6), g, o[0], o[1], 7)
			flipper.Normal(vec(8, 9), g, o[0], o[1], 3)
			flipper.Next(g, o[0], 5, true)
			expect(t, alike(flipper.Conditions(m, f, from, to, 50), conditions), true, "the same Conditions")
			expect(t, flipper.Normal(m.P, f, from, to, 5), normal, "the same Normal")
			expect(t, flipper.Inside(m.P, f, from, 50), in, "the same Inside")
		}
	}
}
