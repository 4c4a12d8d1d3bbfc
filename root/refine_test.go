package root_test

import (
	"math"
	"math/big"
	"math/rand/v2"
	"testing"

	"pinball/api"
	"pinball/poly"
	"pinball/root"
)

// halved are the ends of the interval of r, halved as P4.3 describes it.
func halved(t *testing.T, r api.Root, steps int) (lo, hi *big.Rat) {
	t.Helper()
	lo, hi = rational(r.Lo), rational(r.Hi)
	if lo.Cmp(hi) == 0 {
		return lo, hi
	}
	for range steps {
		middle := new(big.Rat).Add(lo, hi)
		middle.Quo(middle, big.NewRat(2, 1))
		e := middle.Denom().BitLen() - 1
		if counted(t, r.P, r.Lo, dyadic(middle.Num(), e)) == 1 {
			hi = middle
		} else {
			lo = middle
		}
	}
	return lo, hi
}

// checkRefined compares a result of Refine with the ends and the polynomial that it should have.
func checkRefined(t *testing.T, r, s api.Root, steps int, lo, hi *big.Rat) {
	t.Helper()
	if !alike(s.P, poly.Trim(r.P)) {
		t.Fatal("Refine: the polynomial", s.P, "of", r)
	}
	if rational(s.Lo).Cmp(lo) != 0 || rational(s.Hi).Cmp(hi) != 0 {
		t.Fatal("Refine: the interval", s.Lo, s.Hi, "of", r, "after", steps)
	}
	if !root.Valid(s) {
		t.Fatal("Refine: not valid:", s)
	}
	if n, e := root.Cmp(r, s); e != api.OK || n != 0 {
		t.Fatal("Refine: the value:", n, e, r)
	}
}

// refinable are valid Roots: touching 0 or not, with roots at both ends, in the
// middle, and at the middle of a half.
func refinable() []api.Root {
	return []api.Root{
		{P: poly.Of(-2, 0, 1), Lo: dy(0, 0), Hi: dy(2, 0)},
		{P: poly.Of(-4, 0, 2), Lo: dy(-3, 1), Hi: dy(1, 0)},
		{P: poly.Of(6, 0, -3), Lo: dy(-100, 0), Hi: dy(1, 4)},
		{P: poly.Of(-1, 1), Lo: dy(0, 0), Hi: dy(2, 0)}, // 1 is the middle
		{P: poly.Of(-1, 1), Lo: dy(0, 0), Hi: dy(4, 0)},
		{P: poly.Of(-7, 4), Lo: dy(1, 0), Hi: dy(2, 0)},
		{P: poly.Of(-2, 1), Lo: dy(1, 0), Hi: dy(2, 0)},    // 2 is the upper end
		{P: poly.Of(2, -3, 1), Lo: dy(1, 0), Hi: dy(9, 1)}, // 1 is the lower one
		{P: poly.Of(2, -3, 1), Lo: dy(1, 0), Hi: dy(2, 0)},
		{P: ints(1, -2, 1).by(ints(-2, 1), ints(-2, 1)).poly(), Lo: dy(1, 0), Hi: dy(2, 0)},
		{P: ints(1, -2, 1).by(ints(-2, 1), ints(-2, 1)).poly(), Lo: dy(1, 0), Hi: dy(5, 0)},
		{P: ints(1, -2, 1).by(ints(-2, 1)).poly(), Lo: dy(-5, 3), Hi: dy(3, 1)},
		{P: ints(-2, 0, 1).by(ints(-2, 0, 1)).poly(), Lo: dy(0, 0), Hi: dy(2, 0)},
		{P: ints(2, 0, -1).by(ints(-2, 0, 1), ints(0, 0, 1), ints(3, 0, 3)).poly(), Lo: dy(0, 0), Hi: dy(2, 0)},
		{P: ints(-1, 3).by(ints(-1, 3), ints(-1, 3)).poly(), Lo: dy(-1, 0), Hi: dy(2, 0)},
		{P: poly.Of(-3, 4), Lo: dy(3, 2), Hi: dy(3, 2)},
		{P: poly.Of(0, 0, 5), Lo: dy(0, 9), Hi: dy(0, 0)},
		{P: poly.Of(0, 0, 5), Lo: dy(-1, 0), Hi: dy(0, 0)},
	}
}

// P4.3: ordinary Roots and such as touch 0, in canonical and in rough form.
func TestRefine(t *testing.T) {
	for _, r := range refinable() {
		for _, steps := range []int{0, 1, 2, 3, 10, 31} {
			lo, hi := halved(t, r, steps)
			for _, q := range []api.Root{r, roughRoot(r)} {
				s, e := root.Refine(q, steps)
				if e != api.OK {
					t.Fatal("Refine:", e, q, steps)
				}
				checkRefined(t, q, s, steps, lo, hi)
			}
		}
	}
}

// P4.3: steps below 0 and above 256, and steps one after the other.
func TestRefineSteps(t *testing.T) {
	for _, r := range refinable() {
		for _, c := range [][2]int{{-1, 0}, {math.MinInt, 0}, {257, 256}, {math.MaxInt, 256}, {256, 256}} {
			s, e := root.Refine(r, c[0])
			u, f := root.Refine(r, c[1])
			if e != api.OK || f != api.OK {
				t.Fatal("Refine:", e, f)
			}
			checkRefined(t, r, s, c[0], rational(u.Lo), rational(u.Hi))
			width := new(big.Rat).Sub(rational(r.Hi), rational(r.Lo))
			width.Quo(width, new(big.Rat).SetInt(bit(c[1])))
			if width.Sub(width, rational(s.Hi)).Add(width, rational(s.Lo)).Sign() != 0 {
				t.Fatal("Refine: the width of", s)
			}
		}
		once, _ := root.Refine(r, 17)
		twice, e := root.Refine(once, 23)
		whole, _ := root.Refine(r, 40)
		if e != api.OK {
			t.Fatal("Refine:", e)
		}
		checkRefined(t, r, twice, 40, rational(whole.Lo), rational(whole.Hi))
	}
}

// P4.3: random polynomials.
func TestRefineRandomRoots(t *testing.T) {
	r := rand.New(rand.NewPCG(4, 4))
	for i := range 300 {
		m := randomModel(r, 1+i%8, 1+i%100)
		if i%4 == 0 && len(m) < 8 {
			m = m.by(m)
		}
		l, e := root.Isolate(m.poly(), dy(-50, 0), dy(50, 0))
		if e != api.OK {
			t.Fatal("Isolate:", e)
		}
		for _, q := range l {
			q.P = m.poly() // perhaps with roots that occur more than once
			steps := r.IntN(20)
			s, e := root.Refine(q, steps)
			if e != api.OK {
				t.Fatal("Refine:", e, q, steps)
			}
			lo, hi := halved(t, q, steps)
			checkRefined(t, q, s, steps, lo, hi)
		}
	}
}

// P4.3: ErrLimit exactly if an end of the result has too great an exponent or too
// many digits; ends on the way may have them.
func TestRefineAtTheLimit(t *testing.T) {
	third := poly.Of(-1, 3)
	top := dyadic(plus(bit(1024), -2), 0)
	for i, c := range []struct {
		r     api.Root
		steps int
		want  api.Errno
	}{
		{api.Root{P: third, Lo: dy(0, 0), Hi: dy(1, 1000)}, 0, api.ErrArg},
		{api.Root{P: third, Lo: dy(0, 0), Hi: dy(1, 0)}, 256, api.OK},
		{api.Root{P: line(big.NewInt(1), bit(2000)).poly(), Lo: dy(0, 0), Hi: dy(1, 1000)}, 24, api.OK},
		{api.Root{P: line(big.NewInt(1), bit(2000)).poly(), Lo: dy(0, 0), Hi: dy(1, 1000)}, 25, api.ErrLimit},
		{api.Root{P: line(big.NewInt(1), bit(2000)).poly(), Lo: dy(0, 0), Hi: dy(1, 1000)}, math.MaxInt, api.ErrLimit},
		{api.Root{P: line(big.NewInt(1), bit(2000)).poly(), Lo: dy(0, 0), Hi: dy(1, 768)}, math.MaxInt, api.OK},
		{api.Root{P: line(big.NewInt(1), bit(2000)).poly(), Lo: dy(0, 0), Hi: dy(1, 769)}, math.MaxInt, api.ErrLimit},
		{api.Root{P: third, Lo: dy(0, 1000), Hi: dyadic(ones(1024), 1000)}, 24, api.OK},
		{api.Root{P: third, Lo: dy(0, 1000), Hi: dyadic(ones(1024), 1000)}, 25, api.ErrLimit},
		{api.Root{P: line(plus(bit(1024), -3), big.NewInt(2)).poly(), Lo: dyadic(plus(bit(1023), -2), 0), Hi: dyadic(plus(bit(1023), 1), 0)}, 1, api.OK},
		{api.Root{P: line(plus(bit(1024), -1), big.NewInt(1)).poly(), Lo: dyadic(bit(1023), 0), Hi: dyadic(ones(1024), 0)}, 1, api.ErrLimit}, // 1,025 digits
		{api.Root{P: line(plus(bit(1024), -2), big.NewInt(1)).poly(), Lo: dyadic(bit(1023), 0), Hi: top}, 1, api.OK},                         // an even sum
		{api.Root{P: line(bit(1022), big.NewInt(1)).poly(), Lo: dy(1, 1), Hi: top}, 0, api.OK},
		{api.Root{P: line(bit(1022), big.NewInt(1)).poly(), Lo: dy(1, 1), Hi: top}, 2, api.ErrLimit},
		// Down from 2^1024, the ends have 1,025 digits until they come near to 0.
		{api.Root{P: line(minus(bit(990)), big.NewInt(1)).poly(), Lo: dyadic(minus(plus(bit(1001), 1)), 1), Hi: top}, 1, api.ErrLimit},
		{api.Root{P: line(minus(bit(990)), big.NewInt(1)).poly(), Lo: dyadic(minus(plus(bit(1001), 1)), 1), Hi: top}, 23, api.ErrLimit},
		{api.Root{P: line(minus(bit(990)), big.NewInt(1)).poly(), Lo: dyadic(minus(plus(bit(1001), 1)), 1), Hi: top}, 24, api.OK},
	} {
		s, e := root.Refine(c.r, c.steps)
		if expectError(t, "Refine", e, c.want); e != c.want {
			t.Error("Refine:", i)
		}
		switch {
		case e != api.OK && !empty(s):
			t.Error("a Root beside an error:", i)
		case e == api.OK:
			lo, hi := halved(t, c.r, min(c.steps, 256))
			checkRefined(t, c.r, s, c.steps, lo, hi)
		}
	}
}

// P4.3: great polynomials that touch 0 where the polynomial without repeated roots is large.
func TestRefineGreatPolynomials(t *testing.T) {
	r := api.Root{P: nearlyLarge(t), Lo: dy(7, 3), Hi: dy(5, 2)}
	s, e := root.Refine(r, 20)
	if e != api.OK {
		t.Fatal("Refine:", e)
	}
	one := big.NewRat(1, 1)
	if rational(s.Lo).Cmp(one) >= 0 || rational(s.Hi).Cmp(one) < 0 || new(big.Rat).Sub(rational(s.Hi), rational(s.Lo)).Cmp(big.NewRat(3, 8<<20)) != 0 {
		t.Error("Refine:", s.Lo, s.Hi)
	}
}

// P4.3: Roots that are not valid.
func TestRefineErrors(t *testing.T) {
	for i, r := range badRoots() {
		for _, steps := range []int{-1, 0, 5, 256} {
			s, e := root.Refine(r, steps)
			if expectError(t, "Refine", e, api.ErrArg); !empty(s) {
				t.Error("a Root beside an error:", i)
			}
		}
	}
}
