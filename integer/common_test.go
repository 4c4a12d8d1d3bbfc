package integer_test

import (
	"math"
	"math/big"
	"math/rand/v2"
	"slices"
	"testing"

	"pinball/api"
	"pinball/integer"
)

// value is what an Int stands for, by the chapter's definition.
func value(a api.Int) *big.Int {
	v := new(big.Int)
	for i := len(a.L) - 1; i >= 0; i-- {
		v.Lsh(v, 32)
		v.Or(v, big.NewInt(int64(a.L[i])))
	}
	if a.Neg {
		v.Neg(v)
	}
	return v
}

// number is the canonical Int of a value.
func number(v *big.Int) api.Int {
	rest := new(big.Int).Abs(v)
	a := api.Int{Neg: v.Sign() < 0}
	for rest.Sign() != 0 {
		a.L = append(a.L, uint32(new(big.Int).And(rest, big.NewInt(math.MaxUint32)).Uint64()))
		rest.Rsh(rest, 32)
	}
	return a
}

// power is 2^n.
func power(n int) *big.Int {
	return new(big.Int).Lsh(big.NewInt(1), uint(n))
}

// ones is the greatest number of n limbs.
func ones(n int) api.Int {
	return api.Int{L: slices.Repeat([]uint32{math.MaxUint32}, n)}
}

// least is the least positive number of n limbs.
func least(n int) api.Int {
	l := make([]uint32, n)
	l[n-1] = 1
	return api.Int{L: l}
}

// negative is a with a minus sign.
func negative(a api.Int) api.Int {
	return api.Int{Neg: true, L: a.L}
}

// padded is a with n zeros at the high end.
func padded(a api.Int, n int) api.Int {
	return api.Int{Neg: a.Neg, L: append(slices.Clone(a.L), make([]uint32, n)...)}
}

// zeros are the forms of 0: canonical, with limbs, with a sign.
func zeros() []api.Int {
	return []api.Int{{}, {L: []uint32{}}, {L: []uint32{0}}, {L: make([]uint32, 400)}, {Neg: true}, {Neg: true, L: []uint32{0, 0}}}
}

// canonical reports whether a is in canonical form.
func canonical(a api.Int) bool {
	if len(a.L) == 0 {
		return !a.Neg
	}
	return a.L[len(a.L)-1] != 0
}

// expect checks that a is the canonical form of want.
func expect(t *testing.T, what string, a api.Int, want *big.Int) {
	t.Helper()
	if !canonical(a) || value(a).Cmp(want) != 0 {
		t.Errorf("%s: %v, want %v", what, a, want)
	}
}

// expectError checks an error, and that the result beside it is the zero Int.
func expectError(t *testing.T, what string, a api.Int, e, want api.Errno) {
	t.Helper()
	if e != want || a.Neg || len(a.L) != 0 {
		t.Errorf("%s: error %d with %d limbs, want error %d", what, e, len(a.L), want)
	}
}

// randomNumber has up to most limbs; many of them are extreme, since carries,
// borrows and estimates of digits go wrong there first.
func randomNumber(r *rand.Rand, most int) api.Int {
	l := make([]uint32, r.IntN(most+1))
	for i := range l {
		switch r.IntN(8) {
		case 0, 1:
			l[i] = 0
		case 2, 3:
			l[i] = math.MaxUint32
		case 4:
			l[i] = 1 << 31
		case 5:
			l[i] = 1<<31 - 1
		default:
			l[i] = r.Uint32()
		}
	}
	return api.Int{Neg: r.IntN(2) == 0, L: l}
}

// samples are numbers of all sizes and forms.
func samples() []api.Int {
	l := zeros()
	for _, n := range []int{1, -1, 2, -3, 7, 10, 1000000000, -1 << 31, 1<<32 - 1, 1 << 32, -1<<32 - 1, math.MaxInt, math.MinInt} {
		l = append(l, number(big.NewInt(int64(n))))
	}
	for _, n := range []int{2, 3, 4, 64, 128} {
		l = append(l, ones(n), negative(ones(n)), least(n), negative(least(n)), padded(ones(n), 3))
	}
	r := rand.New(rand.NewPCG(1, 1))
	for range 40 {
		l = append(l, randomNumber(r, 12))
	}
	return l
}

// two is a function of two numbers.
type two struct {
	name string
	call func(a, b api.Int) (api.Int, api.Errno)
}

// twos are the functions of two numbers, Quo for its two results.
func twos() []two {
	return []two{
		{"Add", integer.Add},
		{"Sub", integer.Sub},
		{"Mul", integer.Mul},
		{"Gcd", integer.Gcd},
		{"quotient", func(a, b api.Int) (api.Int, api.Errno) {
			q, _, e := integer.Quo(a, b)
			return q, e
		}},
		{"remainder", func(a, b api.Int) (api.Int, api.Errno) {
			_, r, e := integer.Quo(a, b)
			return r, e
		}},
	}
}
