package integer

import "pinball/api"

// Gcd returns the greatest common divisor of a and b; it is not negative.
func Gcd(a, b api.Int) (api.Int, api.Errno) {
	if large(a, b) {
		return api.Int{}, api.ErrSize
	}
	return number(false, common(duplicate(a.L), duplicate(b.L))), api.OK
}

// common returns the greatest common divisor of x and y, whose memory it uses.
//
// It is Euclid's algorithm in the way of Lehmer: as long as the highest digits
// alone decide the quotients, many steps are made with them, and then at once
// with the whole numbers. Plain steps take ten times as long, and polynomials
// need a divisor for all their coefficients.
func common(x, y []uint32) []uint32 {
	if order(x, y) < 0 {
		x, y = y, x
	}
	for len(y) > 2 {
		if c := foresee(x, y); c.b != 0 {
			combine(x, y, c)
			x, y = cut(x), cut(y)
		} else {
			_, rest := divide(x, y)
			x, y = y, cut(rest)
		}
	}
	if len(y) == 0 {
		return x
	}
	_, rest := divide(x, y)
	m, n := head(y, 0), head(cut(rest), 0)
	for n != 0 {
		m, n = n, m%n
	}
	return []uint32{uint32(m), uint32(m >> limbBits)}
}

// factors stand for steps of Euclid's algorithm: they lead from x and y to
// a x + b y and c x + d y. Neither a and b nor c and d have the same sign.
// In foresee, a new d is less than the n that it is computed with, and their
// product is at most the first m, which has headBits digits: so all four have
// at most 31, and combine can multiply them by limbs and add.
type factors struct{ a, b, c, d int64 }

const headBits = 62

// foresee returns the steps that the highest digits of x and y decide.
// x is not less than y, and has more than headBits digits.
func foresee(x, y []uint32) factors {
	drop := length(x) - headBits
	m, n := int64(head(x, drop)), int64(head(y, drop))
	f := factors{a: 1, d: 1}
	// The exact quotient is between those of the two ends.
	for n+f.c != 0 && n+f.d != 0 {
		q := (m + f.a) / (n + f.c)
		if q != (m+f.b)/(n+f.d) {
			break
		}
		f = factors{f.c, f.d, f.a - q*f.c, f.b - q*f.d}
		m, n = n, m-q*n
	}
	return f
}

// head returns the low 64 bits of x / 2^n.
func head(x []uint32, n int) uint64 {
	whole, part := n/limbBits, n%limbBits
	if whole >= len(x) {
		return 0
	}
	h := uint64(x[whole]) >> part
	for i := 1; i < 3 && whole+i < len(x); i++ {
		h |= uint64(x[whole+i]) << (limbBits*i - part)
	}
	return h
}

// combine makes the steps f with x and y, in place. The results are not
// negative and not greater than y, so y's length is enough for both.
func combine(x, y []uint32, f factors) {
	var first, second int64
	for i := range x {
		m, n := int64(x[i]), int64(0)
		if i < len(y) {
			n = int64(y[i])
		}
		first += f.a*m + f.b*n
		second += f.c*m + f.d*n
		x[i] = uint32(first)
		if i < len(y) {
			y[i] = uint32(second)
		}
		first >>= limbBits
		second >>= limbBits
	}
}
