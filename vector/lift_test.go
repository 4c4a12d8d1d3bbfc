package vector_test

import (
	"math/rand/v2"
	"slices"
	"testing"

	"pinball/api"
	"pinball/vector"
)

// P6.3: what does not point against the vectors stays as it is; zero vectors are ignored.
func TestLiftStays(t *testing.T) {
	for _, x := range samples() {
		expectLift(t, x, nil, x)
		expectLift(t, x, []api.Vec{}, x)
		expectLift(t, x, []api.Vec{{}}, x)
		expectLift(t, x, []api.Vec{{}, {}, {}}, x)
		expectLift(t, x, []api.Vec{x}, x)
		expectLift(t, x, []api.Vec{{}, vector.Perp(x), x, vector.Perp(x)}, x) // at right angles to x
		expectLift(t, x, []api.Vec{vec(x.Y, -x.X), {}}, x)
		expectLift(t, api.Vec{}, []api.Vec{x, vec(-x.X, -x.Y), vec(3, 4)}, api.Vec{})
	}
}

// example is what Lift returns for x and l.
type example struct {
	x    api.Vec
	l    []api.Vec
	want api.Vec
}

// expectExamples checks Lift, also in another order, with the same vectors several times, and with zero vectors.
func expectExamples(t *testing.T, l []example) {
	t.Helper()
	for _, c := range l {
		expect(t, lifted(c.x, c.l), c.want, "the test's own Lift of", c.x, c.l)
		expectLift(t, c.x, c.l, c.want)
		expectLift(t, c.x, slices.Concat(c.l, c.l, c.l), c.want)
		expectLift(t, c.x, slices.Concat([]api.Vec{{}}, c.l, []api.Vec{{}}), c.want)
		slices.Reverse(c.l)
		expectLift(t, c.x, c.l, c.want)
	}
}

// P6.3: lists of one vector, with exact projections and such that are not.
func TestLiftOfOne(t *testing.T) {
	expectExamples(t, []example{
		{vec(3, -4), []api.Vec{vec(0, 1)}, vec(3, 0)},
		{vec(3, -4), []api.Vec{vec(0, 7)}, vec(3, 0)},
		{vec(0, -5), []api.Vec{vec(1, 2)}, vec(2, -1)},
		{vec(-6, -6), []api.Vec{vec(1, 3)}, vec(-3, 1)}, // -3.6, 1.2
		{vec(2, 3), []api.Vec{vec(-1, -4)}, vec(0, 0)},  // nearer than those around (1.1.., -0.2..)
		{vec(-1, 0), []api.Vec{vec(9, 8)}, vec(0, 0)},   // -0.4.., 0.4..
		{vec(-end, -end), []api.Vec{vec(0, 1)}, vec(-end, 0)},
		{vec(-end, -end), []api.Vec{vec(end, end)}, vec(0, 0)},
		{vec(end, end), []api.Vec{vec(-end, 1)}, vec(1, end)},
	})
}

// P6.3: lists of several vectors, which leave a part of the plane, a line, or the zero vector only.
func TestLiftOfSeveral(t *testing.T) {
	expectExamples(t, []example{
		{vec(end, -end), []api.Vec{vec(end, end), vec(0, end)}, vec(end, 0)},
		{vec(-9, 1), []api.Vec{vec(2, 1), vec(-1, 1), vec(0, 1)}, vec(-2, 4)},
		{vec(-5, 2), []api.Vec{vec(2, -5), vec(2, -8), vec(-4, 5)}, vec(-5, -2)}, // a vector between two others decides
		{vec(2, 7), []api.Vec{vec(-6, -9), vec(-2, -2), vec(-6, 3)}, vec(-3, 2)},
		{vec(-7, 9), []api.Vec{vec(5, -2), vec(7, -4), vec(8, -6)}, vec(3, 4)},
		{vec(0, -6), []api.Vec{vec(-2, 4), vec(-2, 6), vec(-5, -1)}, vec(-3, -1)},
		{vec(4, 5), []api.Vec{vec(0, 1), vec(0, -1)}, vec(4, 0)},
		{vec(4, 5), []api.Vec{vec(1, 2), vec(-3, -6)}, vec(2, -1)},
		{vec(6, 5), []api.Vec{vec(1, -2), vec(-3, 6)}, vec(6, 3)},
		{vec(4, 5), []api.Vec{vec(0, 1), vec(0, -1), vec(1, 0)}, vec(4, 0)},
		{vec(4, 5), []api.Vec{vec(0, 1), vec(0, -1), vec(-1, 0)}, vec(0, 0)},
		{vec(4, -4), []api.Vec{vec(-1, 0), vec(0, 1)}, vec(0, 0)},
		{vec(4, -4), []api.Vec{vec(0, 1), vec(-1, -1)}, vec(0, 0)},
		{vec(4, 5), []api.Vec{vec(1, 0), vec(-1, 0), vec(0, 1), vec(0, -1)}, vec(0, 0)},
		{vec(4, 5), []api.Vec{vec(2, 1), vec(-2, 1), vec(0, -1)}, vec(0, 0)},
	})
}

// P6.3: candidates at the same distance, of which the shorter one is taken.
func TestLiftSameDistance(t *testing.T) {
	expectExamples(t, []example{
		{vec(0, -1), []api.Vec{vec(1, 1)}, vec(0, 0)}, // as near as (1, -1)
		{vec(3, 2), []api.Vec{vec(1, -2)}, vec(3, 1)}, // as near as (4, 2)
		{vec(-1, 1), []api.Vec{vec(-4, -6)}, vec(-1, 0)},
		{vec(-2, 1), []api.Vec{vec(1, 2), vec(0, 2), vec(2, 2)}, vec(-1, 1)},
		{vec(8, -4), []api.Vec{vec(-11, -10), vec(12, 4)}, vec(5, -6)},
		{vec(10, -3), []api.Vec{vec(2, 7), vec(9, 4)}, vec(10, -2)},
		{vec(-2, -5), []api.Vec{vec(-4, -3), vec(-4, 2), vec(5, -6)}, vec(-2, -4)},
	})
}

// P6.3: candidates that are equally near and equally long, mirror images at the line of x.
func TestLiftSameInEverything(t *testing.T) {
	for _, c := range []struct{ x, n, y api.Vec }{
		{vec(-1, -1), vec(1, 2), vec(0, 1)},
		{vec(-3, -3), vec(3, 4), vec(0, 1)},
		{vec(-5, -5), vec(5, 6), vec(0, 1)},
		{vec(2, 2), vec(-2, -3), vec(0, -1)},
		{vec(-1, -1), vec(end-1, end), vec(0, 1)},
	} {
		l := []api.Vec{c.n, vec(c.n.Y, c.n.X)}
		if !slices.Contains(projected(c.x, l[0]), c.y) || !slices.Contains(projected(c.x, l[1]), vec(c.y.Y, c.y.X)) || against(c.y, l) {
			t.Error("the test's candidates:", c)
		}
		expectExamples(t, []example{{c.x, l, api.Vec{}}})
	}
}

// P6.3: a candidate that is not small is none.
func TestLiftCandidatesAreSmall(t *testing.T) {
	expectExamples(t, []example{
		{vec(end, end), []api.Vec{vec(1, -2)}, vec(0, 0)}, // the projection is (1.2, 0.6) times the limit
		{vec(end, -end), []api.Vec{vec(-2, -1)}, vec(0, 0)},
		{vec(end, end), []api.Vec{vec(1, -2), vec(-2, 1)}, vec(0, 0)},
		{vec(end, 5), []api.Vec{vec(1, -end/5-1)}, vec(end, 4)}, // just beyond the limit, 4.9..
	})
}

// P6.3: short and long vectors, with lists of a few.
func TestLiftOfRandomVectors(t *testing.T) {
	r := rand.New(rand.NewPCG(5, 6))
	for k := range 40000 {
		x, l := randomCase(r, k)
		expectLift(t, x, l, lifted(x, l))
	}
}

// P6.3, R1: long lists take no time that grows with the square of their length.
func TestLiftOfLongLists(t *testing.T) {
	const long = 200_000
	var fan, around []api.Vec
	for i := -long; i <= long; i++ {
		fan = append(fan, vec(i, long))
		around = append(around, vec(i, i%7), vec(i%5, i))
	}
	expectLift(t, vec(9, -1), fan, vec(4, 4))
	expectLift(t, vec(-1, -9), fan, vec(0, 0))
	expectLift(t, vec(-1, -9), around, vec(0, 0))
	expectLift(t, vec(0, -5), slices.Repeat([]api.Vec{vec(1, 2)}, long), vec(2, -1))
	slices.Reverse(fan)
	expectLift(t, vec(9, -1), fan, vec(4, 4))
}
