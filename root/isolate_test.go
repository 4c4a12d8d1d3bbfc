package root_test

import (
	"math/big"
	"math/rand/v2"
	"slices"
	"testing"

	"pinball/api"
	"pinball/poly"
	"pinball/root"
)

// checkIsolated checks what Isolate returns for p: as many Roots as wanted, valid,
// ascending, of p, and in the interval.
func checkIsolated(t *testing.T, p api.Poly, lo, hi api.Dyadic, want int) []api.Root {
	t.Helper()
	l, e := root.Isolate(p, lo, hi)
	if e != api.OK || len(l) != want {
		t.Fatal("Isolate:", len(l), "Roots, error", e, "want", want, "for", p, lo, hi)
	}
	for i, r := range l {
		zero, e := root.Sign(r, p)
		low, f := root.CmpDyadic(r, lo)
		high, g := root.CmpDyadic(r, hi)
		if !root.Valid(r) || e != api.OK || f != api.OK || g != api.OK || zero != 0 || low <= 0 || high > 0 {
			t.Fatal("a Root of Isolate:", r, zero, low, high, "for", p, lo, hi)
		}
		if i > 0 {
			if s, e := root.Cmp(l[i-1], r); e != api.OK || s != -1 {
				t.Fatal("Roots of Isolate that do not ascend:", s, e, "for", p, lo, hi)
			}
		}
	}
	return l
}

// P4.2: the example of the chapter, and ends at roots.
func TestIsolateSmallPolynomials(t *testing.T) {
	cubic := poly.Of(0, -1, 0, 1)
	for _, c := range []struct {
		p      api.Poly
		lo, hi api.Dyadic
		want   []int64 // twice the values
	}{
		{cubic, dy(-1, 0), dy(2, 0), []int64{0, 2}},
		{cubic, dy(-2, 0), dy(2, 0), []int64{-2, 0, 2}},
		{cubic, dy(-2, 0), dy(1, 0), []int64{-2, 0, 2}},
		{cubic, dy(-2, 0), dy(-1, 0), []int64{-2}},
		{cubic, dy(-2, 0), dy(-9, 3), nil},
		{cubic, dy(0, 0), dy(2, 1), []int64{2}},
		{cubic, dy(1, 0), dy(8, 0), nil},
		{cubic, dy(1, 0), dy(4, 2), nil},
		{cubic, dy(0, 0), dy(0, 3), nil},
		{ints(1, -2, 1).by(ints(-1, 2)).poly(), dy(-9, 0), dy(9, 0), []int64{1, 2}},
		{ints(1, -2, 1).by(ints(-1, 2)).poly(), dy(1, 1), dy(1, 0), []int64{2}},
		{poly.Of(0, 0, 0, 0, -5), dy(-1, 64), dy(0, 64), []int64{0}},
		{poly.Of(0, 0, 0, 0, -5), dy(0, 64), dy(1, 64), nil},
		{poly.Of(1, 0, 1), dy(-9, 0), dy(9, 0), nil},
		{poly.Of(-7), dy(-9, 0), dy(9, 0), nil},
		{poly.Of(6, -4), dyadic(minus(ones(128)), 0), dyadic(ones(128), 64), []int64{3}},
	} {
		for _, p := range []api.Poly{c.p, rough(c.p)} {
			for i, r := range checkIsolated(t, p, roughDyadic(c.lo), roughDyadic(c.hi), len(c.want)) {
				if s, e := root.CmpDyadic(r, dy(c.want[i], 1)); e != api.OK || s != 0 {
					t.Error("a value of Isolate:", i, s, e, "for", c)
				}
			}
		}
	}
}

// P4.2: products of polynomials whose roots are known.
func TestIsolateKnownRoots(t *testing.T) {
	r := rand.New(rand.NewPCG(2, 2))
	all := factors()
	for range 400 {
		m := ints(1 + r.Int64N(9))
		if r.IntN(2) == 0 {
			m[0].Neg(m[0])
		}
		var values []*big.Rat
		for len(m) < 2+r.IntN(8) {
			f := all[r.IntN(len(all))]
			m = m.by(f.m)
			values = append(values, f.roots...)
		}
		slices.SortFunc(values, (*big.Rat).Cmp)
		values = slices.CompactFunc(values, near)
		lo, hi := dy(r.Int64N(40)-20, r.IntN(4)), dy(r.Int64N(40)-10, r.IntN(4))
		if r.IntN(3) == 0 {
			lo, hi = dyadic(minus(ones(70)), 3), dyadic(ones(100), 37)
		}
		if rational(lo).Cmp(rational(hi)) > 0 {
			continue
		}
		values = slices.DeleteFunc(values, func(x *big.Rat) bool { return x.Cmp(rational(lo)) <= 0 || x.Cmp(rational(hi)) > 0 })
		for i, r := range checkIsolated(t, m.poly(), lo, hi, len(values)) {
			if a, b := rational(r.Lo), rational(r.Hi); values[i].Cmp(a) < 0 || values[i].Cmp(b) > 0 {
				t.Fatal("the interval of a Root:", a, b, "of", m)
			}
		}
	}
}

// P4.2: random polynomials up to the promised sizes have as many Roots as roots.
func TestIsolateRandomPolynomials(t *testing.T) {
	r := rand.New(rand.NewPCG(3, 3))
	for i := range 1200 {
		p := randomModel(r, i%9, 1+i%200).poly()
		lo, hi := dy(r.Int64N(200)-100, r.IntN(64)), dy(r.Int64N(200)+800, r.IntN(3))
		checkIsolated(t, p, lo, hi, counted(t, p, lo, hi))
	}
}

// P4.2: x^n - 2 (a x - 1)^2 has two roots that are very near to each other.
func TestIsolateNearRoots(t *testing.T) {
	for _, n := range []int{3, 5, 8} {
		for _, digits := range []int{5, 40, 99} {
			a := bit(digits)
			m := ints(-1).by(line(big.NewInt(1), a), line(big.NewInt(2), new(big.Int).Lsh(a, 1)))
			m = append(m, make(model, n-2)...)
			for i := 3; i < n; i++ {
				m[i] = new(big.Int)
			}
			m[n] = big.NewInt(1)
			l := checkIsolated(t, m.poly(), dy(0, 0), dy(1, 0), 2)
			if s, e := root.Cmp(l[1], l[0]); e != api.OK || s != 1 {
				t.Error("near roots:", s, e)
			}
		}
	}
}

// pair is the polynomial with the roots n / 2^e and m / 2^f.
func pair(n *big.Int, e int, m *big.Int, f int) model {
	return line(n, bit(e)).by(line(m, bit(f)))
}

// P4.2: roots so near to each other that only the least intervals which may
// belong to a Root hold one of them, and such that are nearer.
func TestIsolateAtTheLimit(t *testing.T) {
	one := big.NewInt(1)
	far := plus(bit(800), 12345)
	for i, c := range []struct {
		m     model
		limit bool
	}{
		{pair(one, 1024, big.NewInt(2), 1024), false},
		{pair(one, 1025, big.NewInt(3), 1025), false},                                 // 1 / 2^1024 is between them
		{pair(one, 1025, big.NewInt(2), 1025), true},                                  // in the interval up to 1 / 2^1024
		{pair(one, 1025, one, 1026), true},                                            // in the same one, both not at its end
		{pair(big.NewInt(-1), 1026, one, 1026), false},                                // 0 is between them
		{pair(new(big.Int), 0, one, 2000), false},                                     // 0 is one
		{pair(new(big.Int), 0, big.NewInt(-1), 2000), true},                           // the other one is just below it
		{pair(bit(1023), 1023, plus(bit(1023), 1), 1023), false},                      // 1, and the next number that may be an end
		{pair(plus(bit(1024), 1), 1024, plus(bit(1024), 3), 1024), false},             // a number of 1,024 digits is between them
		{pair(plus(bit(1024), 1), 1024, plus(bit(1024), 2), 1024), true},              // a number that would have 1,025 digits is between them
		{pair(plus(bit(1024), -1), 1024, plus(bit(1024), -2), 1024), false},           // below 1, it has 1,024 digits
		{pair(minus(plus(bit(1024), -1)), 1024, minus(bit(1024)), 1024), false},       // the same with the other sign
		{pair(plus(bit(1023), 5), 923, plus(bit(1023), 6), 923), false},               // near to 2^100
		{pair(plus(bit(1023), 5), 922, plus(bit(1023), 6), 922), false},               // near to 2^101
		{pair(plus(bit(1024), 5), 923, plus(bit(1024), 6), 923), true},                // near to 2^101, with one digit more
		{pair(minus(plus(bit(1024), 5)), 923, minus(plus(bit(1024), 6)), 923), false}, // -2^101 and less: the even one is between
		{pair(minus(plus(bit(1024), 6)), 923, minus(plus(bit(1024), 7)), 923), true},
		{pair(far, 1020, plus(far, 1), 1020), false},
	} {
		for _, ends := range append(wholeEnds(c.m), [][2]api.Dyadic{
			{dyadic(minus(ones(128)), 13), dyadic(ones(127), 12)},
			{dyadic(plus(minus(bit(127)), 17), 11), dyadic(plus(bit(127), 77), 20)},
		}...) {
			if !c.limit {
				checkIsolated(t, c.m.poly(), ends[0], ends[1], 2)
				continue
			}
			// With another root, which is found before.
			for _, p := range []api.Poly{c.m.poly(), c.m.by(line(plus(value(ends[0].N), 1), bit(ends[0].E))).poly()} {
				l, e := root.Isolate(p, ends[0], ends[1])
				if expectError(t, "Isolate", e, api.ErrLimit); len(l) != 0 || e != api.ErrLimit {
					t.Error("Roots beside an error:", i, len(l))
				}
			}
		}
	}
}

// wholeEnds are whole numbers next to the two roots of m, which are near to each other.
func wholeEnds(m model) [][2]api.Dyadic {
	n := new(big.Int).Div(minus(m[1]), new(big.Int).Lsh(m[2], 1)) // below the middle
	l := [][2]api.Dyadic{{dyadic(plus(n, -1), 0), dyadic(plus(n, 2), 0)}}
	if m.value(new(big.Rat).SetInt(n)).Sign() > 0 && m.value(new(big.Rat).SetInt(plus(n, 1))).Sign() >= 0 {
		l = append(l, [2]api.Dyadic{dyadic(n, 0), dyadic(plus(n, 1), 0)})
	}
	return l
}

// P4.2: polynomials at the greatest degree and with the greatest coefficients.
func TestIsolateGreatPolynomials(t *testing.T) {
	many := ints(1)
	for i := range int64(api.MaxDegree) {
		many = many.by(ints(i-7, 1+i%2))
	}
	checkIsolated(t, many.poly(), dy(-100, 0), dy(100, 0), 12) // 2 x + i - 7 is twice a whole number for odd i
	top := make(model, api.MaxDegree+1)
	for i := range top {
		top[i] = new(big.Int)
	}
	top[0], top[api.MaxDegree] = minus(ones(most)), bit(most-1)
	checkIsolated(t, top.poly(), dy(-2, 0), dy(2, 0), 2)
	p, lo, hi := nearlyLarge(t), dy(-2, 0), dy(2, 0)
	checkIsolated(t, p, lo, hi, counted(t, p, lo, hi))
}

// P4.2: the errors, in their order.
func TestIsolateErrors(t *testing.T) {
	good, zero, square := dy(0, 0), rough(nil), poly.Of(-2, 0, 1)
	bad := append(badEnds(), dy(1, 65), dy(0, 65), dyadic(bit(128), 0), dyadic(minus(bit(128)), 64), roughDyadic(dyadic(bit(128), 0)))
	check := func(p api.Poly, lo, hi api.Dyadic, want api.Errno) {
		t.Helper()
		l, e := root.Isolate(p, lo, hi)
		if expectError(t, "Isolate", e, want); len(l) != 0 {
			t.Error("Roots beside an error:", len(l))
		}
	}
	for _, p := range largePolys() {
		check(p, good, dy(1, 0), api.ErrSize)
		check(p, bad[0], good, api.ErrSize)
		check(p, dy(1, 0), good, api.ErrSize)
	}
	for _, x := range bad {
		check(zero, x, good, api.ErrZero)
		check(nil, good, x, api.ErrZero)
		for _, p := range []api.Poly{square, rough(square), poly.Of(3), pair(big.NewInt(1), 1025, big.NewInt(1), 1026).poly()} {
			check(p, x, dyadic(ones(128), 0), api.ErrArg)
			check(p, dyadic(minus(ones(128)), 0), x, api.ErrArg)
			check(p, x, x, api.ErrArg)
		}
	}
	check(zero, good, dy(1, 0), api.ErrZero)
	check(zero, dy(1, 0), good, api.ErrZero)
	check(square, dy(1, 0), dy(1, 1), api.ErrArg)
	check(poly.Of(1), dy(1, 64), good, api.ErrArg)
}
