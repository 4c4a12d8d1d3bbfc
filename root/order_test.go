package root_test

import (
	"math"
	"math/big"
	"math/rand/v2"
	"testing"

	"pinball/api"
	"pinball/integer"
	"pinball/poly"
	"pinball/root"
)

// order is -1, 0 or 1 if x is less than, near to or greater than y.
func order(x, y *big.Rat) int {
	if near(x, y) {
		return 0
	}
	return x.Cmp(y)
}

// P4.4, P4.5: Cmp, for all pairs of the samples.
func TestCmp(t *testing.T) {
	l := samples(t)
	equal := 0
	for i, x := range l {
		for j, y := range l {
			want := order(x.value, y.value)
			if i != j && want == 0 {
				equal++
			}
			if n, e := root.Cmp(x.r, y.r); e != api.OK || n != want {
				t.Fatal("Cmp:", n, e, "want", want, "for", x, y)
			}
		}
		if n, e := root.Cmp(roughRoot(x.r), l[(i+1)%len(l)].r); e != api.OK || n != order(x.value, l[(i+1)%len(l)].value) {
			t.Fatal("Cmp of a rough Root:", n, e)
		}
	}
	if equal < 400 {
		t.Error("few are equal:", equal)
	}
}

// P4.4: the example of the chapter, and others in which polynomials have roots in common or nearly so.
func TestCmpOfNearRoots(t *testing.T) {
	square := poly.Of(-2, 0, 1)
	both := ints(-2, 0, 1).by(ints(-17, 12)) // 17/12 is a little greater
	// x / y is nearly the square root of 2, by about 2^-398.
	x, y := big.NewInt(1), big.NewInt(1)
	for x.BitLen() < 200 {
		x, y = new(big.Int).Add(x, new(big.Int).Lsh(y, 1)), new(big.Int).Add(x, y)
	}
	side := new(big.Int).Mul(x, x)
	fraction := line(x, y).poly()
	above := side.Cmp(new(big.Int).Lsh(new(big.Int).Mul(y, y), 1))
	whole := api.Root{P: square, Lo: dy(0, 0), Hi: dy(2, 0)}
	for i, c := range []struct {
		r, s api.Root
		want int
	}{
		{whole, api.Root{P: poly.Of(-4, 0, 0, 0, 1), Lo: dy(0, 0), Hi: dy(2, 0)}, 0},
		{whole, api.Root{P: poly.Of(-4, 0, 0, 0, 1), Lo: dy(-2, 0), Hi: dy(0, 0)}, 1},
		{whole, api.Root{P: both.poly(), Lo: dy(1, 0), Hi: dy(181, 7)}, 1}, // no root there
		{whole, api.Root{P: both.poly(), Lo: dy(1, 0), Hi: dy(362, 8)}, 1},
		{whole, api.Root{P: fraction, Lo: dy(0, 0), Hi: dy(2, 0)}, -above},
		{whole, api.Root{P: fraction, Lo: dy(-1, 0), Hi: dy(3, 0)}, -above},
		{whole, api.Root{P: line(x, y).by(ints(3, 0, 1)).poly(), Lo: dy(1, 0), Hi: dy(2, 0)}, -above},
		{whole, api.Root{P: poly.Of(-1, 1), Lo: dy(0, 0), Hi: dy(1, 0)}, 1},
		{api.Root{P: poly.Of(-1, 1), Lo: dy(0, 0), Hi: dy(1, 0)}, api.Root{P: poly.Of(-1, 1), Lo: dy(0, 0), Hi: dy(9, 0)}, 0},
		{api.Root{P: poly.Of(-1, 1), Lo: dy(0, 0), Hi: dy(1, 0)}, api.Root{P: poly.Of(2, -3, 1), Lo: dy(1, 0), Hi: dy(2, 0)}, -1},
		{api.Root{P: poly.Of(-1, 1), Lo: dy(0, 0), Hi: dy(3, 0)}, api.Root{P: poly.Of(2, -3, 1), Lo: dy(1, 0), Hi: dy(3, 0)}, -1},
		{api.Root{P: poly.Of(2, -3, 1), Lo: dy(1, 0), Hi: dy(3, 0)}, api.Root{P: poly.Of(2, -3, 1), Lo: dy(1, 0), Hi: dy(2, 0)}, 0},
		{api.Root{P: poly.Of(1, -2, 1), Lo: dy(0, 0), Hi: dy(3, 0)}, api.Root{P: poly.Of(-1, 1), Lo: dy(1, 0), Hi: dy(1, 0)}, 0},
		{api.Root{P: poly.Of(1, -2, 1), Lo: dy(0, 0), Hi: dy(3, 0)}, api.Root{P: poly.Of(-1, 0, 1), Lo: dy(-1, 0), Hi: dy(3, 0)}, 0},
		{api.Root{P: poly.Of(1, -2, 1), Lo: dy(0, 0), Hi: dy(3, 0)}, api.Root{P: line(plus(bit(190), 1), bit(190)).poly(), Lo: dy(-1, 0), Hi: dy(3, 0)}, -1},
		{api.Root{P: line(plus(bit(190), -1), bit(190)).poly(), Lo: dy(-1, 0), Hi: dy(3, 0)}, api.Root{P: poly.Of(1, -2, 1), Lo: dy(0, 0), Hi: dy(3, 0)}, -1},
	} {
		if !root.Valid(c.r) || !root.Valid(c.s) {
			if i != 2 && i != 3 {
				t.Error("the test's Roots:", i)
			}
			continue
		}
		n, e := root.Cmp(c.r, c.s)
		m, f := root.Cmp(c.s, c.r)
		if e != api.OK || f != api.OK || n != c.want || m != -c.want {
			t.Error("Cmp:", i, n, m, e, f)
		}
	}
}

// P4.4, P4.5: two roots of a polynomial of the promised size that are very near to each other, and others of other polynomials.
func TestCmpIsAnOrder(t *testing.T) {
	r := rand.New(rand.NewPCG(5, 5))
	var l []api.Root
	for i := range 12 {
		m := randomModel(r, 8, 200)
		for _, p := range []model{m, randomModel(r, 1+i%8, 200), m[:1+len(m)/2].by(ints(-1, int64(i)+2))} {
			if p[len(p)-1].Sign() == 0 {
				continue
			}
			roots, e := root.Isolate(p.poly(), dy(-2, 0), dy(2, 0))
			if e != api.OK {
				t.Fatal("Isolate:", e)
			}
			l = append(l, roots...)
		}
	}
	table := make([][]int, len(l))
	for i, x := range l {
		for _, y := range l {
			n, e := root.Cmp(x, y)
			if e != api.OK {
				t.Fatal("Cmp:", e, x, y)
			}
			table[i] = append(table[i], n)
		}
	}
	for i := range l {
		for j := range l {
			if table[i][j] != -table[j][i] || i == j && table[i][j] != 0 {
				t.Fatal("Cmp:", l[i], l[j])
			}
			for k := range l {
				if table[i][j] <= 0 && table[j][k] <= 0 && table[i][k] != min(table[i][j], table[j][k]) {
					t.Fatal("Cmp:", l[i], l[j], l[k])
				}
			}
		}
	}
}

// P4.4: CmpDyadic, for values on both sides, at the ends of intervals and at the value.
func TestCmpDyadic(t *testing.T) {
	for _, s := range samples(t) {
		places := []api.Dyadic{{}, dy(1, 0), dy(-3, 1), dy(3, 1), dy(181, 7), dy(1<<40, 0), dyadic(minus(ones(1024)), 0), s.r.Lo, s.r.Hi}
		floor := new(big.Int).Mul(s.value.Num(), bit(60))
		floor.Div(floor, s.value.Denom())
		places = append(places, dyadic(floor, 60), dyadic(plus(floor, 1), 60))
		for _, x := range places {
			want := order(s.value, rational(x))
			if n, e := root.CmpDyadic(s.r, x); e != api.OK || n != want {
				t.Fatal("CmpDyadic:", n, e, "want", want, "for", s, x)
			}
			if n, e := root.CmpDyadic(roughRoot(s.r), roughDyadic(x)); e != api.OK || n != want {
				t.Fatal("CmpDyadic of rough forms:", n, e, "want", want, "for", s, x)
			}
		}
	}
}

// P4.4: CmpDyadic of numbers that are very near to the value.
func TestCmpDyadicNearby(t *testing.T) {
	for i, c := range []struct {
		r    api.Root
		x    api.Dyadic
		want int
	}{
		{api.Root{P: poly.Of(0, 1), Lo: dy(-1, 0), Hi: dy(1, 0)}, dy(1, 1024), -1},
		{api.Root{P: poly.Of(0, 1), Lo: dy(-1, 0), Hi: dy(1, 0)}, dy(-1, 1024), 1},
		{api.Root{P: poly.Of(0, 1), Lo: dy(-1, 0), Hi: dy(1, 0)}, dy(0, 1024), 0},
		{api.Root{P: poly.Of(0, 0, 1), Lo: dy(-1, 0), Hi: dy(1, 0)}, dy(1, 1024), -1},
		{api.Root{P: poly.Of(0, 0, 1), Lo: dy(-1, 0), Hi: dy(0, 0)}, dy(-1, 1024), 1},
		{api.Root{P: poly.Of(0, 0, 1), Lo: dy(0, 0), Hi: dy(0, 0)}, dy(-1, 1024), 1},
		{api.Root{P: poly.Of(-1, 1), Lo: dy(-1, 0), Hi: dy(1, 0)}, dyadic(ones(1024), 1024), 1},
		{api.Root{P: line(big.NewInt(1), bit(1025)).poly(), Lo: dy(0, 0), Hi: dy(1, 0)}, dy(1, 1024), -1},
		{api.Root{P: line(big.NewInt(1), bit(1025)).poly(), Lo: dy(-1, 0), Hi: dy(1, 0)}, dy(0, 1024), 1},
		{api.Root{P: line(big.NewInt(1), bit(1024)).poly(), Lo: dy(-1, 0), Hi: dy(1, 0)}, dy(1, 1024), 0},
		{api.Root{P: ints(-1, 1).by(ints(-1, 1), ints(-2, 1)).poly(), Lo: dy(1, 0), Hi: dy(2, 0)}, dy(1, 0), 1},
		{api.Root{P: ints(-1, 1).by(ints(-1, 1), ints(-2, 1)).poly(), Lo: dy(1, 0), Hi: dy(2, 0)}, dy(2, 0), 0},
	} {
		if n, e := root.CmpDyadic(c.r, c.x); e != api.OK || n != c.want {
			t.Error("CmpDyadic:", i, n, e)
		}
	}
}

// P4.4: Floor of values of both signs, for all of e.
func TestFloor(t *testing.T) {
	for _, s := range samples(t) {
		for _, e := range []int{0, 1, 2, 3, 4, 7, 31, 32, 33, 63, 64} {
			want := new(big.Int).Mul(s.value.Num(), bit(e))
			up := new(big.Int).Add(want, new(big.Int).Rsh(s.value.Denom(), precision/2))
			want.Div(want, s.value.Denom())
			if up.Div(up, s.value.Denom()); up.Cmp(want) != 0 { // a little more is a whole number
				want = up
			}
			n, f := root.Floor(s.r, e)
			if f != api.OK || value(n).Cmp(want) != 0 || integer.Cmp(n, number(want)) != 0 {
				t.Fatal("Floor:", value(n), f, "want", want, "for", s, e)
			}
		}
	}
}

// P4.4: Floor of small examples, of the greatest values and of such as are next to a whole number.
func TestFloorOfExamples(t *testing.T) {
	square := poly.Of(-2, 0, 1)
	third := poly.Of(1, 3)
	for i, c := range []struct {
		r    api.Root
		e    int
		want *big.Int
	}{
		{api.Root{P: square, Lo: dy(0, 0), Hi: dy(2, 0)}, 1, big.NewInt(2)},
		{api.Root{P: square, Lo: dy(0, 0), Hi: dy(2, 0)}, 0, big.NewInt(1)},
		{api.Root{P: square, Lo: dy(-2, 0), Hi: dy(0, 0)}, 0, big.NewInt(-2)},
		{api.Root{P: square, Lo: dy(-2, 0), Hi: dy(0, 0)}, 2, big.NewInt(-6)},
		{api.Root{P: third, Lo: dy(-1, 0), Hi: dy(0, 0)}, 0, big.NewInt(-1)},
		{api.Root{P: third, Lo: dy(-1, 0), Hi: dy(0, 0)}, 2, big.NewInt(-2)},
		{api.Root{P: third, Lo: dyadic(minus(ones(1024)), 0), Hi: dyadic(ones(1024), 0)}, 3, big.NewInt(-3)},
		{api.Root{P: poly.Of(7, 2), Lo: dy(-7, 1), Hi: dy(-7, 1)}, 0, big.NewInt(-4)},
		{api.Root{P: poly.Of(7, 2), Lo: dy(-7, 1), Hi: dy(-7, 1)}, 1, big.NewInt(-7)},
		{api.Root{P: poly.Of(7, 2), Lo: dy(-9, 0), Hi: dy(-7, 1)}, 1, big.NewInt(-7)},
		{api.Root{P: poly.Of(-4, 0, 1), Lo: dy(0, 0), Hi: dy(2, 0)}, 0, big.NewInt(2)},
		{api.Root{P: poly.Of(-4, 0, 1), Lo: dy(0, 0), Hi: dy(3, 0)}, 64, bit(65)},
		{api.Root{P: poly.Of(-4, 0, 1), Lo: dy(-2, 0), Hi: dy(3, 0)}, 0, big.NewInt(2)},
		{api.Root{P: poly.Of(4, -4, 1), Lo: dy(-2, 0), Hi: dy(3, 0)}, 4, big.NewInt(32)}, // touches 0
		{api.Root{P: poly.Of(1, 6, 9), Lo: dy(-2, 0), Hi: dy(3, 0)}, 4, big.NewInt(-6)},
		{api.Root{P: line(plus(bit(300), -1), bit(300)).poly(), Lo: dy(0, 0), Hi: dy(5, 0)}, 0, new(big.Int)},
		{api.Root{P: line(plus(bit(300), 1), bit(300)).poly(), Lo: dy(0, 0), Hi: dy(5, 0)}, 64, bit(64)},
		{api.Root{P: line(big.NewInt(-1), bit(900)).poly(), Lo: dy(-1, 0), Hi: dy(0, 0)}, 0, big.NewInt(-1)},
		{api.Root{P: line(ones(1024), big.NewInt(1)).poly(), Lo: dyadic(ones(1024), 0), Hi: dyadic(ones(1024), 0)}, 64, new(big.Int).Lsh(ones(1024), 64)},
		{api.Root{P: line(minus(ones(1023)), big.NewInt(1)).poly(), Lo: dyadic(minus(ones(1024)), 0), Hi: dy(0, 0)}, 64, new(big.Int).Lsh(minus(ones(1023)), 64)},
	} {
		for _, r := range []api.Root{c.r, roughRoot(c.r)} {
			if n, e := root.Floor(r, c.e); e != api.OK || integer.Cmp(n, number(c.want)) != 0 {
				t.Error("Floor:", i, value(n), e, "want", c.want)
			}
		}
	}
}

// P4.4, P4.5: Sign of polynomials with and without the value as a root.
func TestSign(t *testing.T) {
	all := factors()
	var l []model
	for i, f := range all {
		l = append(l, f.m, f.m.by(f.m, ints(-3)), f.m.by(all[(i+2)%len(all)].m), f.m.by(all[(i+5)%len(all)].m, ints(-1)))
	}
	l = append(l, ints(5), ints(-5), line(bit(199), plus(bit(198), 1)))
	zeros := 0
	for i, s := range samples(t) {
		for j, m := range l {
			if (i+j)%3 == 0 {
				continue
			}
			want := 0
			if v := m.value(s.value); !near(v, new(big.Rat)) {
				want = v.Sign()
			} else {
				zeros++
			}
			p := m.poly()
			if (i+j)%5 == 0 {
				p = rough(p)
			}
			if n, e := root.Sign(s.r, p); e != api.OK || n != want {
				t.Fatal("Sign:", n, e, "want", want, "for", s, m)
			}
		}
		for _, p := range []api.Poly{s.r.P, nil, {}, {{}}, rough(nil)} {
			if n, e := root.Sign(s.r, p); e != api.OK || n != 0 {
				t.Fatal("Sign of 0:", n, e, "for", s, p)
			}
		}
		if n, e := root.Sign(roughRoot(s.r), rough(s.r.P)); e != api.OK || n != 0 {
			t.Fatal("Sign of rough forms:", n, e, s)
		}
	}
	if zeros < 300 {
		t.Error("few are 0:", zeros)
	}
}

// P4.4: signs next to a root, and of polynomials with other roots in the interval.
func TestSignNextToRoots(t *testing.T) {
	square := api.Root{P: poly.Of(-2, 0, 1), Lo: dy(0, 0), Hi: dy(2, 0)}
	double := api.Root{P: poly.Of(4, 0, -4, 0, 1), Lo: dy(0, 0), Hi: dy(2, 0)}
	tenth := ints(-14, 10)
	for i, c := range []struct {
		q    model
		want int
	}{
		{tenth, 1}, {tenth.by(tenth), 1}, {tenth.by(ints(-3, 2)), -1}, {ints(-17, 12), -1}, {ints(-17, 12).by(tenth, ints(-1, 1)), -1},
		{ints(-2, 0, 1), 0}, {ints(2, 0, -1).by(tenth), 0}, {ints(4, 0, -4, 0, 1).by(tenth), 0},
		{ints(plus(bit(60), 1).Int64()).by(ints(-2, 0, 1)), 0},
		{model{plus(bit(101), -1), new(big.Int), minus(bit(100))}, -1}, // 2 - x^2 less 2^-100
		{model{plus(bit(101), 1), new(big.Int), minus(bit(100))}, 1},
		{model{plus(bit(1001), 1), new(big.Int), minus(bit(1000))}, 1},
		{model{plus(bit(3001), -1), new(big.Int), minus(bit(3000))}, -1},
		{ints(3, 0, 0, 0, 0, 0, 1), 1}, {ints(-9, 0, 0, 0, 0, 0, 1), -1},
	} {
		for _, r := range []api.Root{square, double} {
			if n, e := root.Sign(r, c.q.poly()); e != api.OK || n != c.want {
				t.Error("Sign:", i, n, e)
			}
		}
	}
	// Nearer than 2^-4096, there is the sign or ErrLimit.
	near := model{plus(bit(6001), 1), new(big.Int), minus(bit(6000))}
	if n, e := root.Sign(square, near.poly()); (e != api.OK || n != 1) && (e != api.ErrLimit || n != 0) {
		t.Error("Sign:", n, e)
	}
	// A root that is greater than Lo, where q is 0 too, and one that is Hi.
	r := api.Root{P: poly.Of(2, -3, 1), Lo: dy(1, 0), Hi: dy(2, 0)}
	for i, c := range []struct {
		q    model
		want int
	}{{ints(-1, 1), 1}, {ints(1, -1), -1}, {ints(-2, 1), 0}, {ints(-3, 2).by(ints(-1, 1)), 1}, {ints(-3, 2).by(ints(-1, 1), ints(-15, 8)), 1}} {
		if n, e := root.Sign(r, c.q.poly()); e != api.OK || n != c.want {
			t.Error("Sign:", i, n, e)
		}
	}
}

// P4.4: the errors, in their order.
func TestOrderErrors(t *testing.T) {
	good := api.Root{P: poly.Of(-2, 0, 1), Lo: dy(0, 0), Hi: dy(2, 0)}
	check := func(what string, n int, e, want api.Errno) {
		t.Helper()
		if expectError(t, what, e, want); n != 0 {
			t.Error("a number beside an error:", what, n)
		}
	}
	for _, r := range badRoots() {
		for _, s := range []api.Root{good, roughRoot(good), r, {}} {
			n, e := root.Cmp(r, s)
			check("Cmp", n, e, api.ErrArg)
			n, e = root.Cmp(s, r)
			check("Cmp", n, e, api.ErrArg)
		}
		for _, x := range append(badEnds(), dy(0, 0)) {
			n, e := root.CmpDyadic(r, x)
			check("CmpDyadic", n, e, api.ErrArg)
		}
		for _, e := range []int{-1, 0, 64, 65} {
			n, f := root.Floor(r, e)
			check("Floor", len(n.L), f, api.ErrArg)
		}
		for _, q := range append(largePolys(), nil, poly.Of(1)) {
			n, e := root.Sign(r, q)
			check("Sign", n, e, api.ErrArg)
		}
	}
	for _, x := range badEnds() {
		n, e := root.CmpDyadic(good, x)
		check("CmpDyadic", n, e, api.ErrArg)
	}
	for _, e := range []int{-1, math.MinInt, 65, math.MaxInt} {
		n, f := root.Floor(good, e)
		check("Floor", len(n.L), f, api.ErrArg)
	}
	point, _ := root.Of(dy(1, 1))
	for _, q := range largePolys() {
		for _, r := range []api.Root{good, point} {
			n, e := root.Sign(r, q)
			check("Sign", n, e, api.ErrSize)
		}
	}
}
