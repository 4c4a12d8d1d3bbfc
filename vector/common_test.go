package vector_test

import (
	"math"
	"math/big"
	"math/rand/v2"
	"slices"
	"testing"

	"pinball/api"
	"pinball/vector"
)

// end is the greatest component of a small vector.
const end = 1 << 30

// vec is the vector (x, y).
func vec(x, y int) api.Vec {
	return api.Vec{X: x, Y: y}
}

// mirror is a mirrored in X.
func mirror(a api.Vec) api.Vec {
	return vec(-a.X, a.Y)
}

// mirrored are all vectors of l, mirrored in X.
func mirrored(l []api.Vec) []api.Vec {
	r := make([]api.Vec, len(l))
	for i, a := range l {
		r[i] = mirror(a)
	}
	return r
}

// images are a and the vectors that arise from it by changing signs and exchanging components.
func images(a api.Vec) []api.Vec {
	var l []api.Vec
	for _, x := range []int{a.X, -a.X} {
		for _, y := range []int{a.Y, -a.Y} {
			l = append(l, vec(x, y), vec(y, x))
		}
	}
	return l
}

// notSmall are vectors with a component just beyond the range, or far beyond it.
func notSmall() []api.Vec {
	var l []api.Vec
	for _, n := range []int{end + 1, -end - 1, end + 2, 1 << 31, -1 << 31, 1 << 32, 1<<32 + 5, -1 << 32, 1 << 62, math.MaxInt, -math.MaxInt, math.MinInt, math.MinInt + 1} {
		for _, m := range []int{0, 1, -3, end, -end, n} {
			l = append(l, vec(n, m), vec(m, n))
		}
	}
	return l
}

// samples are small vectors: the zero vector, short ones, and those at the limits.
func samples() []api.Vec {
	l := []api.Vec{{}}
	for _, a := range []api.Vec{vec(1, 0), vec(1, 1), vec(3, 2), vec(12, -18), vec(257, 1), vec(end, 0), vec(end, 1), vec(end, end), vec(end-1, end), vec(end/2, end/2+1), vec(api.MaxNormal, api.MaxNormal+1), vec(123456789, 987654321)} {
		l = append(l, images(a)...)
	}
	r := rand.New(rand.NewPCG(1, 6))
	for range 30 {
		l = append(l, randomVec(r))
	}
	return l
}

// randomComponent is small; many components are short or at the limits.
func randomComponent(r *rand.Rand) int {
	switch r.IntN(6) {
	case 0:
		return r.IntN(3) - 1
	case 1:
		return r.IntN(41) - 20
	case 2:
		return (end - r.IntN(3)) * (1 - 2*r.IntN(2))
	case 3:
		return r.IntN(1<<22+1) - 1<<21
	default:
		return r.IntN(2*end+1) - end
	}
}

// randomVec is a small vector.
func randomVec(r *rand.Rand) api.Vec {
	return vec(randomComponent(r), randomComponent(r))
}

// shortVec is a vector with components of at most n.
func shortVec(r *rand.Rand, n int) api.Vec {
	return vec(r.IntN(2*n+1)-n, r.IntN(2*n+1)-n)
}

// randomCase is a vector and a list of a few, for Lift. Every second case has short
// vectors, which often have candidates at the same distance.
func randomCase(r *rand.Rand, k int) (api.Vec, []api.Vec) {
	next := randomVec
	if k%2 == 0 {
		next = func(r *rand.Rand) api.Vec { return shortVec(r, 1+k%19) }
	}
	x, l := next(r), []api.Vec(nil)
	for range r.IntN(6) {
		l = append(l, next(r))
	}
	return x, l
}

// expect checks a vector.
func expect(t *testing.T, got, want api.Vec, what ...any) {
	t.Helper()
	if got != want {
		t.Error(append(what, "is", got, "instead of", want)...)
	}
}

// expectNumber checks a number.
func expectNumber(t *testing.T, got, want int, what ...any) {
	t.Helper()
	if got != want {
		t.Error(append(what, "is", got, "instead of", want)...)
	}
}

// product is a b.
func product(a, b int) *big.Int {
	return new(big.Int).Mul(big.NewInt(int64(a)), big.NewInt(int64(b)))
}

// times is k a.
func times(k int64, a *big.Int) *big.Int {
	return new(big.Int).Mul(big.NewInt(k), a)
}

// sum is a + b.
func sum(a, b *big.Int) *big.Int {
	return new(big.Int).Add(a, b)
}

// minus is -a.
func minus(a *big.Int) *big.Int {
	return new(big.Int).Neg(a)
}

// dot is the product of two vectors of any size.
func dot(a, b api.Vec) *big.Int {
	return sum(product(a.X, b.X), product(a.Y, b.Y))
}

// cross is the other product of two vectors of any size.
func cross(a, b api.Vec) *big.Int {
	return sum(product(a.X, b.Y), minus(product(a.Y, b.X)))
}

// against reports whether y points against a vector of l.
func against(y api.Vec, l []api.Vec) bool {
	return slices.ContainsFunc(l, func(n api.Vec) bool { return dot(y, n).Sign() < 0 })
}

// projected are the four vectors around the exact projection of x on the line at right angles to n.
func projected(x, n api.Vec) []api.Vec {
	whole := dot(n, n)
	component := func(x, n int, s *big.Int) (floor, ceiling int) { // (x whole - s n) / whole
		p := new(big.Int).Mul(big.NewInt(int64(x)), whole)
		p.Sub(p, new(big.Int).Mul(s, big.NewInt(int64(n))))
		q, rest := new(big.Int).DivMod(p, whole, new(big.Int))
		floor = int(q.Int64())
		return floor, floor + rest.Sign()
	}
	left, right := component(x.X, n.X, dot(x, n))
	low, high := component(x.Y, n.Y, dot(x, n))
	return []api.Vec{vec(left, low), vec(left, high), vec(right, low), vec(right, high)}
}

// least are those elements of l for which a number is least.
func least(l []api.Vec, number func(y api.Vec) *big.Int) []api.Vec {
	var r []api.Vec
	for _, y := range l {
		c := -1
		if len(r) > 0 {
			c = number(y).Cmp(number(r[0]))
		}
		if c < 0 {
			r = nil
		}
		if c <= 0 {
			r = append(r, y)
		}
	}
	return r
}

// lifted is what Lift returns for small vectors, word by word as the chapter says it.
func lifted(x api.Vec, l []api.Vec) api.Vec {
	if !against(x, l) {
		return x
	}
	all := []api.Vec{{}}
	for _, n := range l {
		if dot(x, n).Sign() < 0 {
			all = append(all, projected(x, n)...)
		}
	}
	all = slices.DeleteFunc(all, func(y api.Vec) bool { return max(y.X, -y.X, y.Y, -y.Y) > end || against(y, l) })
	all = least(all, func(y api.Vec) *big.Int {
		d := vec(y.X-x.X, y.Y-x.Y)
		return dot(d, d)
	})
	all = least(all, func(y api.Vec) *big.Int { return dot(y, y) })
	if slices.ContainsFunc(all, func(y api.Vec) bool { return y != all[0] }) {
		return api.Vec{}
	}
	return all[0]
}

// expectLift checks Lift, also of the mirrored vectors.
func expectLift(t *testing.T, x api.Vec, l []api.Vec, want api.Vec) {
	t.Helper()
	expect(t, vector.Lift(x, l), want, "Lift of", x, "and", l)
	expect(t, vector.Lift(mirror(x), mirrored(l)), mirror(want), "Lift of the mirrored", x, "and", l)
}
