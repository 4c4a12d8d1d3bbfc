package vector_test

import (
	"math"
	"math/big"
	"testing"

	"pinball/api"
	"pinball/vector"
)

// P6.1: Small, at the limits and beyond them.
func TestSmall(t *testing.T) {
	for _, a := range samples() {
		if !vector.Small(a) {
			t.Error("Small:", a)
		}
	}
	for _, a := range notSmall() {
		if vector.Small(a) {
			t.Error("Small:", a)
		}
	}
}

// expectOf checks a result, which is the zero vector where the exact one is not small.
func expectOf(t *testing.T, got api.Vec, x, y *big.Int, what ...any) {
	t.Helper()
	var want api.Vec
	if limit := big.NewInt(end); x.CmpAbs(limit) <= 0 && y.CmpAbs(limit) <= 0 {
		want = vec(int(x.Int64()), int(y.Int64()))
	}
	expect(t, got, want, what...)
}

// P6.1: Add, Sub, Dot, Cross and Perp of small vectors.
func TestSums(t *testing.T) {
	for _, a := range samples() {
		for _, b := range samples() {
			one := func(n int) *big.Int { return big.NewInt(int64(n)) }
			expectOf(t, vector.Add(a, b), one(a.X+b.X), one(a.Y+b.Y), "Add", a, b)
			expectOf(t, vector.Sub(a, b), one(a.X-b.X), one(a.Y-b.Y), "Sub", a, b)
			if d := vector.Dot(a, b); dot(a, b).Cmp(one(d)) != 0 {
				t.Error("Dot", a, b, d)
			}
			if c := vector.Cross(a, b); cross(a, b).Cmp(one(c)) != 0 {
				t.Error("Cross", a, b, c)
			}
		}
		expect(t, vector.Perp(a), vec(-a.Y, a.X), "Perp", a)
	}
	expectNumber(t, vector.Dot(vec(1, 2), vec(30, 400)), 830, "Dot")
	expectNumber(t, vector.Cross(vec(1, 2), vec(30, 400)), 340, "Cross")
	expectNumber(t, vector.Dot(vec(-end, end), vec(end, -end)), -1<<61, "Dot at the limit")
	expectNumber(t, vector.Cross(vec(end, -end), vec(end, end)), 1<<61, "Cross at the limit")
	expect(t, vector.Perp(vec(-end, end)), vec(-end, -end), "Perp at the limit")
}

// P6.1: sums and differences that are just small, and that are not.
func TestSumsAtTheLimit(t *testing.T) {
	for _, s := range []int{1, -1} {
		for _, n := range []int{1, 7, end / 2, end - 1, end} {
			a, b, c := s*n, s*(end-n), s*(end-n+1)
			expect(t, vector.Add(vec(a, 1), vec(b, 2)), vec(s*end, 3), "Add, just small,", a)
			expect(t, vector.Add(vec(2, b), vec(1, a)), vec(3, s*end), "Add, just small,", a)
			expect(t, vector.Sub(vec(a, 4), vec(-b, 1)), vec(s*end, 3), "Sub, just small,", a)
			expect(t, vector.Sub(vec(4, b), vec(1, -a)), vec(3, s*end), "Sub, just small,", a)
			expect(t, vector.Add(vec(a, 1), vec(c, 2)), api.Vec{}, "Add, not small,", a)
			expect(t, vector.Add(vec(2, c), vec(1, a)), api.Vec{}, "Add, not small,", a)
			expect(t, vector.Sub(vec(a, 4), vec(-c, 1)), api.Vec{}, "Sub, not small,", a)
			expect(t, vector.Sub(vec(4, c), vec(1, -a)), api.Vec{}, "Sub, not small,", a)
		}
	}
	expect(t, vector.Add(vec(end, 0), vec(-end, 5)), vec(0, 5), "Add of opposite ends")
	expect(t, vector.Add(vec(end, end), vec(end, end)), api.Vec{}, "Add of the ends")
	expect(t, vector.Sub(vec(end, -end), vec(-end, end)), api.Vec{}, "Sub of the ends")
	expect(t, vector.Sub(vec(end, -end), vec(end, -end)), api.Vec{}, "Sub of equal ends")
}

// P6.1: Scale with any int.
func TestScale(t *testing.T) {
	factors := []int{0, 1, -1, 2, -2, 3, 1 << 10, -1 << 15, end - 1, end, -end, end + 1, -end - 1, 1 << 31, 1<<32 + 1, 1 << 34, -1 << 34, 1 << 62, 1 << 63 / 3, math.MaxInt, math.MaxInt - 1, -math.MaxInt, math.MinInt, math.MinInt + 1}
	for _, a := range samples() {
		for _, n := range factors {
			expectOf(t, vector.Scale(a, n), product(n, a.X), product(n, a.Y), "Scale", a, n)
		}
		expect(t, vector.Scale(a, 0), api.Vec{}, "Scale by 0", a)
		expect(t, vector.Scale(a, 1), a, "Scale by 1", a)
	}
	for _, d := range []int{1, 2, 3, 5, 7, 1 << 10, 1<<15 + 1, end / 2, end - 1, end} { // multiples that are just small, and that are not
		n := end / d
		for _, s := range []int{1, -1} {
			expect(t, vector.Scale(vec(d, -1), s*n), vec(s*d*n, -s*n), "Scale, just small,", d)
			expect(t, vector.Scale(vec(1, d), s*n), vec(s*n, s*d*n), "Scale, just small,", d)
			expect(t, vector.Scale(vec(d, 0), s*(n+1)), api.Vec{}, "Scale, not small,", d)
			expect(t, vector.Scale(vec(1, -d), s*(n+1)), api.Vec{}, "Scale, not small,", d)
		}
	}
}

// The zero values for vectors that are not small, in each place of an argument.
func TestNotSmall(t *testing.T) {
	for _, a := range notSmall() {
		for _, b := range []api.Vec{{}, vec(0, 1), vec(-1, 0), vec(3, -4), vec(-a.X, -a.Y), a, vec(end, -end), vec(-end, end)} {
			for _, p := range [][2]api.Vec{{a, b}, {b, a}} {
				expect(t, vector.Add(p[0], p[1]), api.Vec{}, "Add", p)
				expect(t, vector.Sub(p[0], p[1]), api.Vec{}, "Sub", p)
				expectNumber(t, vector.Dot(p[0], p[1]), 0, "Dot", p)
				expectNumber(t, vector.Cross(p[0], p[1]), 0, "Cross", p)
				if v, ok := vector.Turn(p[0], p[1]); ok || v != (api.Vec{}) {
					t.Error("Turn", p, v, ok)
				}
				for _, l := range [][]api.Vec{{p[1]}, {p[1], vec(0, 1)}, {vec(0, 0), vec(1, 5), vec(1, 1), p[1]}} {
					expect(t, vector.Lift(p[0], l), api.Vec{}, "Lift", p[0], l)
				}
			}
		}
		expect(t, vector.Lift(a, nil), api.Vec{}, "Lift of a vector that is not small", a)
		expect(t, vector.Perp(a), api.Vec{}, "Perp", a)
		expect(t, vector.Reduce(a), api.Vec{}, "Reduce", a)
		expect(t, vector.Halve(a), api.Vec{}, "Halve", a)
		for _, n := range []int{0, 1, -1, math.MinInt, 1 << 62, end} {
			expect(t, vector.Scale(a, n), api.Vec{}, "Scale", a, n)
		}
	}
}
