package vector_test

import (
	"math/big"
	"testing"

	"pinball/api"
	"pinball/vector"
)

// P6.2: Reduce, of the zero vector, with one component 0, and of all signs.
func TestReduce(t *testing.T) {
	expect(t, vector.Reduce(api.Vec{}), api.Vec{}, "Reduce of the zero vector")
	for _, n := range []int{1, 2, 6, 97, end - 1, end} {
		for _, c := range images(vec(n, 0)) {
			expect(t, vector.Reduce(c), vec(c.X/n, c.Y/n), "Reduce with one component 0", c)
		}
	}
	expect(t, vector.Reduce(vec(6, -4)), vec(3, -2), "Reduce")
	expect(t, vector.Reduce(vec(-end, -end)), vec(-1, -1), "Reduce at the limit")
	expect(t, vector.Reduce(vec(end, -end+1)), vec(end, -end+1), "Reduce at the limit")
	expect(t, vector.Reduce(vec(-end, 3<<28)), vec(-4, 3), "Reduce at the limit")
	for _, a := range samples() {
		d := int(new(big.Int).GCD(nil, nil, new(big.Int).Abs(big.NewInt(int64(a.X))), new(big.Int).Abs(big.NewInt(int64(a.Y)))).Int64())
		if d > 0 {
			expect(t, vector.Reduce(a), vec(a.X/d, a.Y/d), "Reduce", a)
		}
	}
	for x := 1; x <= 30; x++ { // multiples of vectors that cannot be divided
		for _, k := range []int{1, 2, 3, 30, 1000001} {
			for _, c := range images(vec(x, 31)) {
				expect(t, vector.Reduce(vec(c.X*k, c.Y*k)), c, "Reduce of a multiple by", k)
			}
		}
	}
}

// P6.2: Halve, at the limit and above it, of odd and of negative components.
func TestHalve(t *testing.T) {
	const most = api.MaxNormal
	for _, c := range []struct{ from, to api.Vec }{
		{api.Vec{}, api.Vec{}},
		{vec(1, 3), vec(1, 3)},
		{vec(most-1, 7), vec(most-1, 7)},
		{vec(most, 7), vec(most, 7)},
		{vec(most, most), vec(most, most)},
		{vec(most+1, 7), vec(most/2, 3)},
		{vec(most+1, most), vec(most/2, most/2)},
		{vec(most+2, 1), vec(most/2+1, 0)},
		{vec(2*most, 9), vec(most, 4)},
		{vec(2*most+1, 9), vec(most, 4)},
		{vec(2*most+2, 9), vec(most/2, 2)},
		{vec(2*most+3, 5), vec(most/2, 1)},
		{vec(end, 1023), vec(most, 1)},
		{vec(end, 511), vec(most, 0)},
		{vec(end-1, 1023), vec(most-1, 1)},
		{vec(end, end), vec(most, most)},
		{vec(end-511, 511), vec(most-1, 0)},
		{vec(8*most+15, 8*most-1), vec(most/2, most/2-1)},
		{vec(8*most+7, 8*most-1), vec(most, most-1)},
	} {
		from, to := images(c.from), images(c.to)
		for i, a := range from {
			expect(t, vector.Halve(a), to[i], "Halve", a)
		}
	}
	for _, a := range samples() {
		want := a
		for max(want.X, want.Y) > most || min(want.X, want.Y) < -most {
			want = vec(want.X/2, want.Y/2)
		}
		expect(t, vector.Halve(a), want, "Halve", a)
		expect(t, vector.Halve(want), want, "Halve of a halved vector", a)
	}
}
