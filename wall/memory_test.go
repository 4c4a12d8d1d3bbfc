package wall_test

import (
	"slices"
	"testing"

	"pinball/api"
	"pinball/wall"
)

// alike reports whether two results have the same elements with the same limbs.
func alike(a, b [][]api.Poly) bool {
	same := func(a, b api.Int) bool { return a.Neg == b.Neg && slices.Equal(a.L, b.L) }
	polys := func(p, q api.Poly) bool { return slices.EqualFunc(p, q, same) }
	return slices.EqualFunc(a, b, func(c, d []api.Poly) bool { return slices.EqualFunc(c, d, polys) })
}

// spoil writes into all memory of a number.
func spoil(a api.Int) {
	l := a.L[:cap(a.L)]
	for i := range l {
		l[i] = 0x5a5a5a5a
	}
}

// expectSeparate checks that writing into one part of a result, or appending to it,
// reaches no other part, and nothing that another call returns.
func expectSeparate(t *testing.T, call func() [][]api.Poly) {
	t.Helper()
	want, l := call(), call()
	for i, c := range l {
		for j, p := range c {
			for k := range p {
				spoil(p[k])
				p[k] = want[i][j][k]
				expect(t, alike(l, want), true, "the result without element", i, j, k, "stays")
			}
			p = append(p, api.Int{L: []uint32{99}})
			clear(p[:cap(p)])
			c[j] = want[i][j]
			expect(t, alike(l, want), true, "the result without polynomial", i, j, "stays")
		}
		c = append(c, api.Poly{{}})
		clear(c[:cap(c)])
		l[i] = want[i]
		expect(t, alike(l, want), true, "the result without conjunction", i, "stays")
	}
	clear(l[:cap(l)])
	expect(t, alike(call(), want), true, "the same result again")
}

// R3: the results of Disc and Capsule are new memory, and their parts share none.
func TestResultsAreNew(t *testing.T) {
	for _, m := range []api.Motion{{}, fly(1, 1, 1, 1, 1, 1), fly(100, 9, -8, 7, 0, -4), fly(place, -place, -velocity, velocity, half, -half)} {
		for _, s := range segments() {
			for _, reach := range []int{1, 30, far} {
				expectSeparate(t, func() [][]api.Poly { return wall.Capsule(m, s.a, s.b, reach) })
				expectSeparate(t, func() [][]api.Poly { return wall.Disc(m, s.b, reach) })
			}
		}
	}
}

// R5: the same arguments have the same results again, whatever was called in between.
func TestSameAgain(t *testing.T) {
	m := fly(100, 9, -8, 7, 0, -4)
	for _, s := range segments() {
		capsule, disc, normal := wall.Capsule(m, s.a, s.b, 50), wall.Disc(m, s.a, 50), wall.CapsuleNormal(m.P, s.a, s.b)
		for _, o := range segments() {
			wall.Capsule(fly(1, 2, 3, 4, 5, 6), o.a, o.b, far)
			wall.CapsuleNormal(vec(7, 8), o.b, o.a)
			expect(t, alike(wall.Capsule(m, s.a, s.b, 50), capsule), true, "the same Capsule")
			expect(t, alike(wall.Disc(m, s.a, 50), disc), true, "the same Disc")
			expect(t, wall.CapsuleNormal(m.P, s.a, s.b), normal, "the same CapsuleNormal")
		}
	}
}
