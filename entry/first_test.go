package entry_test

import (
	"math/big"
	"math/rand/v2"
	"testing"

	"pinball/api"
	"pinball/entry"
	"pinball/poly"
	"pinball/root"
)

// P5.1, P5.2: the examples of the chapter, conjunctions that hold from 0 on or
// just behind 0, and those that never do.
func TestFirstFromZero(t *testing.T) {
	zero := point(t, 0, 0)
	x, half := poly.Of(0, 1), poly.Of(-1, 2)
	for _, l := range []list{
		{{}}, {nil, {poly.Of(-1)}}, {{poly.Of(-1)}, {}}, // a conjunction without polynomials
		{{poly.Of(1)}}, {{poly.Of(7), poly.Of(1)}}, {{poly.Of(-7)}, {poly.Of(7)}},
		{{poly.Of(1, -2)}}, {{poly.Of(1, 5)}}, {{poly.Of(1, -1)}}, {{poly.Of(3, 0, -2), poly.Of(1)}}, // hold at 0
		{{x}}, {{poly.Of(0, 0, 1)}}, {{poly.Of(0, 0, 0, 0, 0, 0, 0, 0, 1)}}, {{poly.Of(0, 1, -100)}}, // do not
		{{poly.Of(0, 0, 3, -5), x}}, {{x, poly.Of(1, -2)}}, {{x, poly.Of(1, -2)}, {half}}, {{half}, {x, poly.Of(1, -2)}},
		{{by(half, half)}}, {{not(by(half, half, poly.Of(-1, 4)))}}, {{by(poly.Of(-1, 1), poly.Of(-1, 1))}}, // touch 0 later
		{{not(by(half, half, half))}}, {{by(poly.Of(-1, 4), half)}}, {{by(x, poly.Of(-1, 4), half)}},
		{{half}, {not(half)}}, {{line(big.NewInt(-1), bit(199))}}, {{poly.Of(1, 0, 1)}}, {{poly.Of(5, -9, 5)}},
	} {
		expect(t, l, zero)
		expect(t, each(l, rough), zero)
	}
	for _, l := range []list{
		nil, {}, {{poly.Of(0)}}, {{nil}}, {{{}}}, {{poly.Of(-3)}}, {{poly.Of(2), nil}}, {{x, poly.Of(-1)}}, {{nil, half}, {half, nil}},
		{{not(x)}}, {{not(by(x, x))}}, {{poly.Of(0, -1, 1)}}, {{poly.Of(-1, -1)}}, {{poly.Of(-2, 1)}}, {{half, not(half)}},
		{{not(by(half, half))}}, {{not(by(half, half, half, half))}}, {{not(by(half, half, poly.Of(-1, 4), poly.Of(-1, 4)))}},
		{{not(by(half, half)), poly.Of(1)}}, {{not(by(half, half, poly.Of(1, 0, 1)))}}, {{not(by(poly.Of(-1, 0, 2), poly.Of(-1, 0, 2)))}},
		{{poly.Of(-1, 0, -1)}}, {{poly.Of(-5, 9, -5)}}, {{line(big.NewInt(2), big.NewInt(1))}}, {{by(half, half), not(by(half, half))}},
	} {
		expect(t, l)
		expect(t, each(l, rough))
	}
}

// P5.1, P5.2: conjunctions that begin to hold at a root, where others do not; with
// values that only touch 0, and roots that occur more than once.
func TestFirstAtRoots(t *testing.T) {
	quarter, half, last := poly.Of(-1, 4), poly.Of(-1, 2), poly.Of(-3, 4)
	for _, c := range []struct {
		n, e int // the entry is n / 2^e
		l    list
	}{
		{1, 2, list{{quarter}}},
		{1, 2, list{{by(half, half), quarter}}},
		{1, 2, list{{not(by(quarter, half))}}},
		{1, 2, list{{poly.Of(0, -1, 4)}}},
		{1, 2, list{{not(by(quarter, poly.Of(-2, 1)))}, {last, half}, {half}}},
		{1, 1, list{{half, quarter}}},
		{1, 1, list{{half, quarter}, {last}}},
		{1, 1, list{{not(quarter), half}, {half}}},
		{1, 1, list{{by(half, half, half)}}},
		{1, 1, list{{by(half, half, half, half, half, half, half), quarter}}},
		{1, 1, list{{by(half, quarter, quarter)}}},
		{1, 1, list{{by(half, last, last)}}},
		{1, 1, list{{by(half, half, half, quarter, quarter), by(half, quarter, quarter)}}},
		{1, 1, list{{by(half, quarter), quarter}}},
		{1, 1, list{{not(by(half, last)), by(half, quarter)}}},
		{1, 1, list{{by(half, poly.Of(1, 0, 1))}}},
		{1, 1, list{{by(half, poly.Of(5, -9, 5))}}},
		{1, 1, list{{by(half, poly.Of(1, -1))}}},
		{1, 1, list{{half, poly.Of(1, -1)}}},
		{3, 2, list{{by(half, half, last)}}},
		{3, 2, list{{by(half, half, last, poly.Of(1, -1))}}},
		{3, 2, list{{by(last, last, last), not(by(poly.Of(-7, 8), quarter))}}},
		{3, 2, list{{by(half, half), by(quarter, half, last), half}}},
		{3, 2, list{{poly.Of(-1, 8), not(by(poly.Of(-1, 8), quarter)), half}, {last}}},
		{7, 3, list{{by(quarter, half, last, poly.Of(-7, 8)), by(quarter, half, last)}, {quarter, not(half), last}}},
	} {
		expect(t, c.l, point(t, c.n, c.e))
		expect(t, each(c.l, rough), point(t, c.n, c.e))
	}
	expect(t, list{{poly.Of(-1, 3)}}, roots(t, poly.Of(-1, 3))[0])
	expect(t, list{{poly.Of(-1, 0, 3), poly.Of(-1, 2)}}, roots(t, poly.Of(-1, 0, 3))[0])
	expect(t, list{{poly.Of(-1, 6, -6)}}, roots(t, poly.Of(-1, 6, -6))[0])
	expect(t, list{{poly.Of(1, -6, 6), quarter}}, roots(t, poly.Of(-1, 6, -6))[1])
}

// P5.1, P5.2: what begins to hold at 1 is not counted, though it may be positive
// behind 1; what holds at 1 has begun to hold before.
func TestFirstNearOne(t *testing.T) {
	one := poly.Of(-1, 1)
	for _, l := range []list{
		{{one}}, {{by(one, one, one)}}, {{not(by(one, one))}}, {{poly.Of(-1, 0, 1)}}, {{poly.Of(-1, 2), one}}, {{poly.Of(1, 0, 0, -2), poly.Of(-4, 5)}},
		{{by(poly.Of(-1, 2), one), poly.Of(-1, 2)}}, {{not(by(poly.Of(-1, 2), poly.Of(-1, 2), one)), one}},
		{{poly.Of(-3, 2)}}, {{line(plus(bit(198), 1), bit(198))}}, {{poly.Of(-5, 4)}, {one}},
	} {
		expect(t, l)
		expect(t, each(l, rough))
	}
	expect(t, list{{one}, {poly.Of(-1, 2)}}, point(t, 1, 1))
	expect(t, list{{poly.Of(-1, 2), not(one)}}, point(t, 1, 1))
	expect(t, list{{by(one, one), poly.Of(-1, 2)}}, point(t, 1, 1))
	expect(t, list{{by(one, one)}, {one}}, point(t, 0, 0))
	near, e := root.Of(api.Dyadic{N: number(plus(bit(199), -1)), E: 199})
	if e != api.OK {
		t.Fatal("Of:", e)
	}
	expect(t, list{{line(plus(bit(199), -1), bit(199))}}, near) // holds at 1, and at no time that is not very near
	expect(t, list{{line(plus(bit(199), -1), bit(199)), one}, {line(plus(bit(199), -1), bit(199)), poly.Of(2, -1)}}, near)
	expect(t, list{{line(plus(bit(199), -1), bit(199)), not(one)}}, near)
}

// P5.1: conjunctions that meet at a time, roots that several polynomials have, and
// such that differ by very little.
func TestFirstOfNearRoots(t *testing.T) {
	half, last := poly.Of(-1, 2), poly.Of(-3, 4)
	square := poly.Of(-1, 0, 2)
	side := roots(t, square)[0]
	for _, l := range []list{
		{{half, not(last)}, {last}}, {{last}, {half, not(last)}}, {{half}, {half}}, {{half, half}}, {{by(half, half, half)}, {half}},
		{{half, poly.Of(-1, 0, 4), by(half, poly.Of(3, 1)), by(half, half, half)}}, {{not(by(half, last)), half}, {poly.Of(-1, 0, 4)}},
		{{not(by(poly.Of(-1, 4), half)), half}, {half}},
	} {
		expect(t, l, point(t, 1, 1))
	}
	expect(t, list{{not(half), half}, {poly.Of(1, 0, -4), poly.Of(-1, 0, 4)}})
	expect(t, list{{not(half), half}, {last}}, point(t, 3, 2))
	expect(t, list{{square, poly.Of(-1, 0, 0, 0, 4), by(square, square, square), by(square, poly.Of(-2, 3))}}, side)
	expect(t, list{{poly.Of(-1, 0, 0, 0, 4)}, {by(square, half)}}, point(t, 0, 0))
	expect(t, list{{poly.Of(-1, 0, 0, 0, 4)}, {by(square, half), half}}, side)
	expect(t, list{{square, poly.Of(1, 0, 0, 0, -4)}, {not(square), by(square, square, square)}})
}

// P5.1: a fraction next to the square root of 1/2, below it and above it, by about 2^-390.
func TestFirstNextToARoot(t *testing.T) {
	square := poly.Of(-1, 0, 2)
	x, y := big.NewInt(1), big.NewInt(1)
	next := func() {
		x, y = new(big.Int).Add(x, y), new(big.Int).Add(new(big.Int).Lsh(x, 1), y)
	}
	for y.BitLen() < 194 {
		next()
	}
	for range 2 {
		next()
		first, second := line(x, y), square
		if s, _ := root.Sign(roots(t, first)[0], square); s > 0 {
			first, second = second, first
		}
		r, s := roots(t, first)[0], roots(t, second)[0]
		expect(t, list{{first}, {second}}, r)
		expect(t, list{{second}, {first}}, r)
		expect(t, list{{first, second}}, s)
		expect(t, list{{second, first}}, s)
		expect(t, list{{first, not(second)}}, r)
		expect(t, list{{not(second), first}}, r)
		expect(t, list{{not(first), second}})
		expect(t, list{{second, not(first)}, {first, second}}, s)
		expect(t, list{{not(by(square, line(x, y)))}}, r)
		expect(t, list{{by(square, line(x, y)), first}}, s)
	}
}

// P5.1: a gap of 2^-199 between roots of two polynomials, and one of 2^-99 between those of one.
func TestFirstOfGaps(t *testing.T) {
	low, high := line(bit(150), bit(199)), line(plus(bit(150), 1), bit(199))
	r, s := roots(t, low)[0], roots(t, high)[0]
	expect(t, list{{low, not(high)}}, r)
	expect(t, list{{not(high), low}, {low}}, r)
	expect(t, list{{high, low}}, s)
	expect(t, list{{high, not(low)}})
	expect(t, list{{high, not(low)}, {high}}, s)
	low, high = line(bit(50), bit(99)), line(plus(bit(50), 1), bit(99))
	expect(t, list{{not(by(low, high))}}, roots(t, low)[0])
	expect(t, list{{by(low, high), low}}, roots(t, high)[0])
}

// P5.1, P5.2, P5.4: lists of products of factors, many of them with roots in common.
func TestFirstOfProducts(t *testing.T) {
	r := rand.New(rand.NewPCG(1, 5))
	counts := map[string]int{}
	for i := range 1500 {
		l := randomList(r)
		want, found := searched(t, l)
		switch {
		case !found:
			counts["none"]++
			expect(t, l)
		case order(t, want, point(t, 0, 0)) == 0:
			counts["zero"]++
			expect(t, l, want)
		default:
			counts["later"]++
			expect(t, l, want)
		}
		if i%9 == 0 && found {
			expect(t, each(l, rough), want)
		}
	}
	for _, what := range []string{"none", "zero", "later"} {
		if counts[what] < 150 {
			t.Error("few of a sort:", counts)
		}
	}
}

// P5.1: polynomials of degree 8 with coefficients of 200 digits.
func TestFirstOfGreatNumbers(t *testing.T) {
	r := rand.New(rand.NewPCG(2, 5))
	long := func(degree, digits int) api.Poly {
		p := make(api.Poly, degree+1)
		for i := range p {
			v := big.NewInt(1 - 2*r.Int64N(2))
			for range digits - 1 {
				v.Add(v.Lsh(v, 1), big.NewInt(r.Int64N(2)))
			}
			p[i] = number(v)
		}
		return p
	}
	some := func() api.Poly {
		if r.IntN(2) == 0 { // with a root that others have too
			return by(poly.Of(-1-r.IntN(9), 10), long(7, 190))
		}
		return long(8, 199)
	}
	later := 0
	for range 150 {
		l := list{{some(), some()}, {some(), some(), some()}}
		want, found := searched(t, l)
		if !found {
			expect(t, l)
			continue
		}
		if order(t, want, point(t, 0, 0)) > 0 {
			later++
		}
		expect(t, l, want)
	}
	if later < 30 {
		t.Error("few begin later:", later)
	}
}

// P5.1, P5.2: the limits, and one more of everything.
func TestLimits(t *testing.T) {
	never, p := poly.Of(-1), by(poly.Of(-1, 4), poly.Of(1, 1), poly.Of(2, 1), poly.Of(3, 1), poly.Of(4, 1), poly.Of(5, 1), poly.Of(6, 1), poly.Of(7, 1))
	quarter := point(t, 1, 2)
	great := plus(bit(200), -1)
	conjunction := func(n int) []api.Poly {
		c := []api.Poly{p}
		for len(c) < n {
			c = append(c, poly.Of(1, len(c)))
		}
		return c
	}
	wide := func(n int) list {
		l := list{{never}}
		for len(l) < n-1 {
			l = append(l, []api.Poly{never})
		}
		return append(l, conjunction(16))
	}
	for _, l := range []list{
		{{p}}, wide(64), {conjunction(16)}, {{p, api.Poly{number(great)}}}, {{p}, {api.Poly{number(minus(great))}}},
		{{p, api.Poly{number(great), 8: number(minus(great))}}},
	} {
		expect(t, l, quarter)
		expect(t, each(l, rough), quarter)
	}
	long := line(new(big.Int).Rsh(great, 2), great)
	expect(t, list{{poly.Of(-1, 4)}, {long}}, roots(t, long)[0])
	high := api.Poly{9: number(big.NewInt(1))}
	most, least := api.Poly{number(bit(200))}, api.Poly{number(minus(bit(200)))}
	for _, l := range []list{
		wide(65), make(list, 65), {conjunction(17)}, {make([]api.Poly, 17)}, {{}, conjunction(17)}, {{never}, {never, p, high}},
		{{high}}, {{not(high)}}, {{}, {high}}, {{high}, {}}, {{never, high}}, {{nil, high}}, {{most}}, {{least}}, {{}, {most}}, {{never, most}}, {{least, never}},
		{{api.Poly{8: most[0]}}}, {{api.Poly{most[0], 8: number(big.NewInt(1))}}}, {{p, p, append(poly.Of(1, 1, 1), least...)}}, {conjunction(16), conjunction(16), {most}},
		{{api.Poly{17: number(big.NewInt(1))}}}, {{api.Poly{{L: append(make([]uint32, 300), 1)}}}},
	} {
		for _, l := range []list{l, each(l, rough)} {
			r, found, e := entry.First(l)
			if e != api.ErrSize || found || !empty(r) {
				t.Error("First of a large list:", e, found, r)
			}
			if holds, e := entry.Within(l); e != api.ErrSize || holds {
				t.Error("Within of a large list:", e, holds)
			}
		}
	}
}

// P5.1: many conjunctions of many polynomials of degree 8, which are near to each other.
func TestFirstOfManyConjunctions(t *testing.T) {
	var l list
	for i := range 64 {
		var c []api.Poly
		for j := range 16 {
			p := by(poly.Of(-8_000_000-997*i-j, 16_000_000), poly.Of(1, 1), poly.Of(-1, 4), poly.Of(-1, 4), poly.Of(-3, 4), poly.Of(-3, 4), poly.Of(2, -1))
			c = append(c, p)
		}
		l = append(l, c)
	}
	l[0], l[40] = l[40], l[0]
	expect(t, l, roots(t, poly.Of(-8_000_015, 16_000_000))[0])
	expect(t, each(l, not), point(t, 0, 0))
	for i := range l {
		l[i] = append(l[i][:15], not(l[i][14]))
	}
	expect(t, l)
}
