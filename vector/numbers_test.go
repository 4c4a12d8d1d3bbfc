package vector_test

import (
	"math"
	"math/big"
	"math/rand/v2"
	"testing"

	"pinball/vector"
)

// P6.2: Root, of negative numbers, squares and the numbers next to them, up to the greatest int.
func TestRoot(t *testing.T) {
	for _, n := range []int{-1, -2, -4, -100, -1 << 40, -math.MaxInt, math.MinInt} {
		expectNumber(t, vector.Root(n), 0, "Root of", n)
	}
	for n, want := range []int{0, 1, 1, 1, 2, 2, 2, 2, 2, 3} {
		expectNumber(t, vector.Root(n), want, "Root of", n)
	}
	const most = 3037000499 // the greatest root of an int
	expectNumber(t, vector.Root(math.MaxInt), most, "Root of the greatest int")
	expectNumber(t, vector.Root(math.MaxInt-1), most, "Root of an int next to the greatest")
	roots := []int{most, most - 1, most - 2, 3 << 20, 94906265, 94906266, 94906267}
	for e := 1; e < 32; e++ {
		roots = append(roots, 1<<e-1, 1<<e, 1<<e+1, 3<<e/2)
	}
	for k := range 2000 {
		roots = append(roots, k)
	}
	r := rand.New(rand.NewPCG(2, 6))
	for range 2000 {
		roots = append(roots, r.IntN(most+1))
	}
	for _, k := range roots {
		if k > most {
			continue
		}
		expectNumber(t, vector.Root(k*k), k, "Root of the square of", k)
		if k > 0 {
			expectNumber(t, vector.Root(k*k-1), k-1, "Root of the number before the square of", k)
			expectNumber(t, vector.Root(k*k+1), k, "Root of the number behind the square of", k)
		}
		if k < most {
			expectNumber(t, vector.Root(k*k+2*k), k, "Root of the number before the next square", k)
		}
	}
}

// expectMulDiv checks MulDiv.
func expectMulDiv(t *testing.T, a, b, c int) {
	t.Helper()
	var want int
	var exists bool
	if c != 0 {
		q := product(a, b)
		q.Quo(q, big.NewInt(int64(c)))
		if exists = q.IsInt64(); exists {
			want = int(q.Int64())
		}
	}
	if q, ok := vector.MulDiv(a, b, c); q != want || ok != exists {
		t.Error("MulDiv of", a, b, c, "is", q, ok, "instead of", want, exists)
	}
}

// P6.2: MulDiv, with every combination of signs, c = 0, products beyond an int, and quotients at the ends of an int.
func TestMulDiv(t *testing.T) {
	for _, c := range []struct {
		a, b, c, want int
		exists        bool
	}{
		{7, 3, 2, 10, true}, {-7, 3, 2, -10, true}, {7, -3, 2, -10, true}, {7, 3, -2, -10, true},
		{-7, -3, 2, 10, true}, {7, -3, -2, 10, true}, {-7, 3, -2, 10, true}, {-7, -3, -2, -10, true},
		{0, 5, -3, 0, true}, {-1, 1, 2, 0, true}, {1, 1, -2, 0, true}, {0, math.MinInt, math.MinInt, 0, true},
		{0, 0, 0, 0, false}, {5, 5, 0, 0, false}, {-5, 0, 0, 0, false}, {math.MinInt, math.MaxInt, 0, 0, false},
		{math.MaxInt, math.MaxInt, math.MaxInt, math.MaxInt, true}, {math.MinInt, math.MinInt, math.MinInt, math.MinInt, true},
		{math.MinInt, math.MaxInt, math.MinInt, math.MaxInt, true}, {math.MinInt, math.MaxInt, math.MaxInt, math.MinInt, true},
		{math.MinInt, 1, 1, math.MinInt, true}, {math.MinInt, -1, -1, math.MinInt, true}, {math.MinInt, -1, 1, 0, false}, {math.MinInt, 1, -1, 0, false},
		{1 << 62, 2, 1, 0, false}, {1 << 62, -2, 1, math.MinInt, true}, {1 << 62, 2, -1, math.MinInt, true}, {-1 << 62, -2, 1, 0, false},
		{1 << 62, 4, 1, 0, false}, {1 << 62, -4, 1, 0, false}, {1 << 62, 1 << 62, 1 << 61, 0, false}, {1 << 62, 1 << 62, 1<<61 + 1, math.MaxInt - 3, true},
		{math.MaxInt, 2, 2, math.MaxInt, true}, {math.MaxInt, 3, 2, 0, false}, {math.MaxInt, math.MaxInt, 1, 0, false}, {math.MinInt, math.MinInt, 1, 0, false},
		{math.MinInt, math.MinInt, 3, 0, false}, {math.MinInt, math.MinInt, math.MaxInt, 0, false}, {math.MinInt, math.MinInt, -math.MaxInt, 0, false},
	} {
		if q, ok := vector.MulDiv(c.a, c.b, c.c); q != c.want || ok != c.exists {
			t.Error("MulDiv of", c.a, c.b, c.c, "is", q, ok, "instead of", c.want, c.exists)
		}
	}
	l := []int{0, 1, 2, 3, 7, 10, 1<<31 - 1, 1 << 31, 1 << 32, 1<<32 + 1, 3037000499, 3037000500, 1 << 61, 1 << 62, 1<<62 + 1, math.MaxInt - 1, math.MaxInt, math.MinInt}
	for _, n := range l {
		l = append(l, -n)
	}
	for _, a := range l {
		for _, b := range l {
			for _, c := range l {
				expectMulDiv(t, a, b, c)
			}
		}
	}
	r := rand.New(rand.NewPCG(3, 6))
	number := func() int { return int(r.Uint64()) >> r.IntN(64) }
	for range 20000 {
		expectMulDiv(t, number(), number(), number())
	}
}

// P6.2: MulDiv, quotients that are just ints, and that are just not.
func TestMulDivAtTheEnds(t *testing.T) {
	r := rand.New(rand.NewPCG(4, 6))
	for range 5000 {
		// Around b = (2^63 c) / a, the quotient goes beyond the ends of an int.
		a := int(r.Uint64())>>r.IntN(63) | 1
		c := a / (2 + r.IntN(9))
		whole := new(big.Int).Lsh(big.NewInt(int64(c)), 63)
		b := int(whole.Quo(whole, big.NewInt(int64(a))).Int64())
		for d := -3; d <= 3; d++ {
			expectMulDiv(t, a, b+d, c)
			expectMulDiv(t, -b-d, a, c)
			expectMulDiv(t, b+d, a, -c)
		}
	}
}
