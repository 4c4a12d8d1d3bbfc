package root_test

import (
	"math"
	"math/big"
	"math/rand/v2"
	"testing"

	"pinball/api"
	"pinball/poly"
	"pinball/root"
)

// P4.1: Valid where the chapter's conditions meet their limits.
func TestValid(t *testing.T) {
	square, double := poly.Of(-2, 0, 1), poly.Of(1, -2, 1)
	third := poly.Of(-1, 3)
	tiny := line(big.NewInt(1), bit(1030)).poly() // the root 2^-1030
	for i, c := range []struct {
		p      api.Poly
		lo, hi api.Dyadic
		want   bool
	}{
		{square, dy(0, 0), dy(2, 0), true},
		{square, dy(0, 0), dy(1, 0), false},
		{square, dy(-2, 0), dy(2, 0), false},
		{square, dy(2, 0), dy(0, 0), false},
		{square, dy(1, 0), dy(1, 0), false},
		{square, dy(181, 7), dy(182, 7), true},
		{square, dy(-182, 7), dy(-181, 7), true},
		{poly.Of(0, -1, 1), dy(0, 0), dy(1, 0), true}, // 0 is at Lo, 1 at Hi
		{poly.Of(0, -1, 1), dy(-1, 0), dy(0, 0), true},
		{poly.Of(0, -1, 1), dy(-1, 5), dy(1, 0), false},
		{poly.Of(0, -1, 1), dy(0, 0), dy(1, 1), false},
		{poly.Of(0, -1, 1), dy(1, 0), dy(2, 0), false},
		{poly.Of(0, -1, 1), dy(0, 0), dy(0, 5), true},
		{poly.Of(0, -1, 1), dy(1, 0), dy(32, 5), true},
		{poly.Of(0, -1, 1), dy(1, 1), dy(1, 1), false},
		{double, dy(0, 0), dy(2, 0), true}, // twice the root 1
		{double, dy(0, 0), dy(1, 0), true},
		{double, dy(1, 0), dy(2, 0), false},
		{double, dy(1, 0), dy(1, 0), true},
		{poly.Of(-1, 3, -3, 1), dy(0, 0), dy(5, 1), true},
		{ints(-1, 3, -3, 1).by(ints(0, 1)).poly(), dy(0, 0), dy(5, 1), true},
		{ints(-1, 3, -3, 1).by(ints(0, 1)).poly(), dy(-1, 0), dy(5, 1), false},
		{poly.Of(1, 0, 1), dy(-9, 0), dy(9, 0), false},
		{ints(1, 0, 1).by(ints(-1, 3)).poly(), dy(-9, 0), dy(9, 0), true},
		{ints(2, -2, 1).by(ints(-1, 1)).poly(), dy(0, 0), dy(2, 0), true}, // complex roots above and below
		{poly.Of(1), dy(0, 0), dy(1, 0), false},
		{nil, dy(0, 0), dy(0, 0), false},
		{nil, dy(0, 0), dy(1, 0), false},
		{third, dyadic(minus(ones(1024)), 0), dyadic(ones(1024), 0), true},
		{third, dyadic(minus(bit(1024)), 0), dyadic(ones(1024), 0), false},
		{third, dyadic(minus(ones(1024)), 0), dyadic(bit(1024), 0), false},
		{third, dy(0, 1024), dyadic(ones(1024), 1024), true},
		{third, dy(0, 1025), dyadic(ones(1024), 1024), false},
		{third, dy(0, 0), dyadic(ones(1024), 1025), false},
		{third, dy(0, 0), dyadic(bit(1024), 1024), false}, // 1, but not with so many digits
		{third, dy(0, 0), dyadic(bit(1023), 1023), true},
		{tiny, dy(0, 0), dy(1, 1024), true},
		{tiny, dy(-1, 1024), dy(0, 0), false},
		{tiny, dy(-1, 1024), dy(1, 1024), true},
		{line(ones(1024), bit(1024)).poly(), dyadic(ones(1024), 1024), dyadic(ones(1024), 1024), true},
		{line(ones(1024), bit(1024)).poly(), dyadic(plus(ones(1024), -1), 1024), dyadic(plus(ones(1024), -1), 1024), false},
		{line(ones(1023), bit(1024)).by(ints(1, 0, 0, 0, 0, 0, 0, 0, 0, 0, 0, 0, 0, 0, 0, 1)).poly(), dyadic(ones(1023), 1024), dyadic(ones(1023), 1024), true},
	} {
		r := api.Root{P: c.p, Lo: c.lo, Hi: c.hi}
		if root.Valid(r) != c.want || root.Valid(roughRoot(r)) != c.want {
			t.Error("Valid:", i, !c.want)
		}
	}
}

// P4.1: Valid for roots at the greatest polynomials and at powers of them.
func TestValidOfGreatPolynomials(t *testing.T) {
	top := make(api.Poly, api.MaxDegree+1)
	top[0], top[api.MaxDegree] = number(minus(ones(most))), number(ones(most)) // x^16 - 1
	for _, c := range []struct {
		lo, hi api.Dyadic
		want   bool
	}{{dy(0, 0), dy(1, 0), true}, {dy(-1, 0), dy(1, 0), true}, {dy(-2, 0), dy(1, 0), false}, {dy(1, 0), dy(2, 0), false}, {dyadic(ones(1024), 1024), dy(1, 0), true}} {
		if r := (api.Root{P: top, Lo: c.lo, Hi: c.hi}); root.Valid(r) != c.want {
			t.Error("Valid:", c, !c.want)
		}
	}
	power := ints(1)
	for range api.MaxDegree {
		power = power.by(ints(-5, 3))
	}
	for _, c := range []struct {
		lo, hi api.Dyadic
		want   bool
	}{{dy(1, 0), dy(2, 0), true}, {dy(0, 0), dy(1, 0), false}, {dy(5, 1), dy(9, 1), false}} {
		if r := (api.Root{P: power.poly(), Lo: c.lo, Hi: c.hi}); root.Valid(r) != c.want {
			t.Error("Valid:", c, !c.want)
		}
	}
}

// P4.1: Valid agrees with the number of roots, for polynomials of all degrees.
func TestValidByCount(t *testing.T) {
	r := rand.New(rand.NewPCG(1, 1))
	valid := 0
	for i := range 4000 {
		m := randomModel(r, 1+i%8, 1+i%40)
		if i%5 == 0 && len(m) < 8 {
			m = m.by(m)
		}
		lo, hi := dy(r.Int64N(65)-32, r.IntN(6)), dy(r.Int64N(65)-32, r.IntN(6))
		if i%7 == 0 { // a root at an end
			end := []api.Dyadic{lo, hi}[i%2]
			m = m.by(line(value(end.N), bit(end.E)))
		}
		p := m.poly()
		order := rational(lo).Cmp(rational(hi))
		want := order < 0 && counted(t, p, lo, hi) == 1
		if order == 0 {
			want = m.value(rational(lo)).Sign() == 0
		}
		if got := root.Valid(api.Root{P: p, Lo: lo, Hi: hi}); got != want {
			t.Fatal("Valid:", got, p, lo, hi)
		}
		if want {
			valid++
		}
	}
	if valid < 500 {
		t.Error("few are valid:", valid)
	}
}

// P4.1: the Roots that the errors of all calls name.
func TestNotValid(t *testing.T) {
	for i, r := range badRoots() {
		if root.Valid(r) {
			t.Error("Valid:", i, r)
		}
	}
}

// P4.1: Of, up to the limits.
func TestOf(t *testing.T) {
	for i, x := range goodEnds() {
		r, e := root.Of(x)
		if e != api.OK || !root.Valid(r) || !alike(r.P, poly.Trim(r.P)) {
			t.Error("Of:", i, e, r)
			continue
		}
		n, e := root.CmpDyadic(r, x)
		if e != api.OK || n != 0 {
			t.Error("the value of Of:", i, n, e)
		}
		if s, e := root.Cmp(r, api.Root{P: line(value(x.N), bit(x.E)).poly(), Lo: x, Hi: x}); e != api.OK || s != 0 {
			t.Error("the value of Of:", i, s, e)
		}
	}
	for i, x := range badEnds() {
		r, e := root.Of(x)
		if expectError(t, "Of", e, api.ErrArg); !empty(r) {
			t.Error("a Root beside an error:", i, r)
		}
	}
}

// goodEnds may be ends of the interval of a Root.
func goodEnds() []api.Dyadic {
	l := []api.Dyadic{
		{}, dy(0, 7), dy(0, 1024), {N: api.Int{Neg: true, L: []uint32{0, 0}}, E: 3}, dy(1, 0), dy(-1, 0), dy(6, 2), dy(-12, 3), dy(math.MaxInt64, 5),
		dy(1, 1024), dy(-1, 1024), dy(2, 1024), dyadic(ones(1024), 0), dyadic(minus(ones(1024)), 0), dyadic(ones(1024), 1024), dyadic(minus(ones(1024)), 1024),
		dyadic(bit(1023), 1023), dyadic(bit(1023), 1024), dyadic(bit(1023), 0), dyadic(minus(bit(1023)), 0),
	}
	for _, x := range l {
		l = append(l, roughDyadic(x))
	}
	return l
}
