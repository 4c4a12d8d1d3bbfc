package integer

import "pinball/api"

// Add returns a + b.
func Add(a, b api.Int) (api.Int, api.Errno) {
	if large(a, b) {
		return api.Int{}, api.ErrSize
	}
	return bounded(sum(a, b))
}

// Sub returns a - b.
func Sub(a, b api.Int) (api.Int, api.Errno) {
	b.Neg = !b.Neg
	return Add(a, b)
}

// Mul returns a b.
func Mul(a, b api.Int) (api.Int, api.Errno) {
	if large(a, b) {
		return api.Int{}, api.ErrSize
	}
	return bounded(number(a.Neg != b.Neg, times(cut(a.L), cut(b.L))))
}

// Shift returns a 2^n, rounded down.
func Shift(a api.Int, n int) (api.Int, api.Errno) {
	const most = limbBits * api.MaxLimbs
	x := cut(a.L)
	switch {
	case large(a):
		return api.Int{}, api.ErrSize
	case len(x) == 0:
		return api.Int{}, api.OK
	case n > most:
		return api.Int{}, api.ErrSize
	case n >= 0:
		return bounded(number(a.Neg, raise(x, n)))
	}
	// Lowering by most leaves no digit; the bound keeps -n an int.
	return floor(a.Neg, x, -max(n, -most)), api.OK
}

// sum returns a + b, of any size.
func sum(a, b api.Int) api.Int {
	x, y := cut(a.L), cut(b.L)
	switch {
	case a.Neg == b.Neg:
		return number(a.Neg, plus(x, y))
	case order(x, y) < 0:
		return number(b.Neg, minus(y, x))
	}
	return number(a.Neg, minus(x, y))
}

// floor returns the number with the limbs x and the sign neg, divided by 2^n and rounded down.
func floor(neg bool, x []uint32, n int) api.Int {
	lowered, fraction := lower(x, n)
	if neg && fraction {
		lowered = plus(lowered, []uint32{1})
	}
	return number(neg, lowered)
}
