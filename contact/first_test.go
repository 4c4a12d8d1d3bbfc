package contact_test

import (
	"math"
	"math/rand/v2"
	"slices"
	"testing"

	"pinball/api"
	"pinball/contact"
	"pinball/integer"
	"pinball/poly"
	"pinball/root"
)

// between is the root of p between 0 and 1, of which there is one.
func between(t *testing.T, p api.Poly) api.Root {
	t.Helper()
	l, e := root.Isolate(p, api.Dyadic{}, api.Dyadic{N: integer.Of(1)})
	if e != api.OK || len(l) != 1 {
		t.Fatal("Isolate of", p, "returns", l, e)
	}
	return l[0]
}

// halves are Roots of different forms with the value 1/2.
func halves(t *testing.T) []api.Root {
	return []api.Root{
		moment(1, 1), between(t, poly.Of(-1, 2)), between(t, poly.Of(-1, 0, 4)), between(t, poly.Of(-1, 0, 0, 8)), between(t, poly.Of(-1, 1, 2)),
		{P: poly.Of(3, -5, -2), Lo: api.Dyadic{N: integer.Of(-1)}, Hi: api.Dyadic{N: integer.Of(2), E: 2}},
		{P: poly.Of(-4, 8), Lo: api.Dyadic{N: integer.Of(2), E: 2}, Hi: api.Dyadic{N: integer.Of(2), E: 2}},
	}
}

// expectFirst checks that the contacts of l with these indices are the first.
func expectFirst(t *testing.T, l []api.Contact, indices ...int) {
	t.Helper()
	first, e := contact.First(l)
	if e != api.OK || len(first) != len(indices) {
		t.Error("First of", l, "is", first, "with the error", e, "instead of", indices)
		return
	}
	for i, n := range indices {
		expect(t, alike(first[i], l[n]), true, "contact", i, "of First of", l)
	}
}

// at each of some times there is a contact.
func contactsAt(times ...api.Root) []api.Contact {
	var l []api.Contact
	for i, r := range times {
		l = append(l, api.Contact{Ball: i / 3, Kind: 1 + i%5, Index: 7 * i, At: r})
	}
	return l
}

// P14.5: no contacts, one, and several, of which some are least at once.
func TestFirst(t *testing.T) {
	expectFirst(t, nil)
	expectFirst(t, []api.Contact{})
	expectFirst(t, contactsAt(moment(1, 1)), 0)
	expectFirst(t, contactsAt(moment(-7, 0)), 0)
	expectFirst(t, contactsAt(moment(0, 0), moment(1, 1)), 0)
	expectFirst(t, contactsAt(moment(1, 1), moment(0, 0)), 1)
	expectFirst(t, contactsAt(moment(1, 1), moment(1, 1)), 0, 1)
	expectFirst(t, contactsAt(moment(3, 2), moment(1, 1), moment(5, 3), moment(1, 1), moment(1, 0), moment(1, 1)), 1, 3, 5)
	expectFirst(t, contactsAt(moment(1, 3), moment(1, 2), moment(1, 1), moment(1, 0), moment(1, 3)), 0, 4)
	expectFirst(t, contactsAt(moment(3, 0), moment(2, 0), moment(1, 0), moment(-1, 0)), 3)
	for i, r := range halves(t) {
		expectFirst(t, contactsAt(moment(3, 2), r, moment(1<<40+1, 41)), 1)
		expectFirst(t, contactsAt(moment(3, 2), r, moment(1<<40-1, 41)), 2)
		for j, o := range halves(t) {
			expectFirst(t, contactsAt(r, moment(3, 2), o), 0, 2)
			if i != j {
				expectFirst(t, contactsAt(o, r), 0, 1)
			}
		}
	}
	expectFirst(t, contactsAt(append(halves(t), halves(t)...)...), 0, 1, 2, 3, 4, 5, 6, 7, 8, 9, 10, 11, 12, 13)
}

// P14.5: times that are no dyadic numbers, equal and near to one another.
func TestFirstOfIrrationalTimes(t *testing.T) {
	half := between(t, poly.Of(-1, 0, 2)) // the root of 1/2
	same := between(t, poly.Of(-1, 0, 0, 0, 4))
	above := between(t, poly.Of(-1-1<<50, 0, 2<<50)) // a little more than 1/2 under the root
	below := between(t, poly.Of(1-1<<50, 0, 2<<50))
	expectFirst(t, contactsAt(half, same), 0, 1)
	expectFirst(t, contactsAt(above, half, same, above), 1, 2)
	expectFirst(t, contactsAt(above, half, same, below), 3)
	expectFirst(t, contactsAt(above, above), 0, 1)
	fine, e := root.Refine(half, 64)
	expect(t, e, api.OK, "the error of Refine")
	expectFirst(t, contactsAt(half, above, fine, moment(725, 10), same), 0, 2, 4)
}

// P14.5: only the times matter; the other fields are returned as they are.
func TestFirstKeepsFields(t *testing.T) {
	l := []api.Contact{
		{Ball: math.MaxInt, Kind: math.MinInt, Index: -1, At: moment(1, 1)},
		{At: moment(1, 1)},
		{Ball: 5, Kind: api.KindBall, Index: 3, At: moment(1, 2)},
		{Ball: 5, Kind: api.KindBall, Index: 3, At: moment(1, 2)},
		{Ball: -1, Kind: 9, Index: math.MinInt, At: moment(1, 2)},
	}
	expectFirst(t, l, 2, 3, 4)
	expectFirst(t, l[:2], 0, 1)
}

// P14.5: ErrArg for each time that is not valid, wherever it is.
func TestFirstOfWrongTimes(t *testing.T) {
	for i, r := range []api.Root{
		{},
		{P: poly.Of(1), Lo: api.Dyadic{}, Hi: api.Dyadic{N: integer.Of(1)}},
		{P: poly.Of(-1, 2), Lo: api.Dyadic{}, Hi: api.Dyadic{}},
		{P: poly.Of(-1, 2), Lo: api.Dyadic{N: integer.Of(1)}, Hi: api.Dyadic{}},
		{P: poly.Of(-1, 2), Lo: api.Dyadic{N: integer.Of(1), E: 1}, Hi: api.Dyadic{N: integer.Of(1)}},
		{P: poly.Of(-1, 0, 2), Lo: api.Dyadic{N: integer.Of(-1)}, Hi: api.Dyadic{N: integer.Of(1)}},
		{P: poly.Of(-1, 2), Lo: api.Dyadic{}, Hi: api.Dyadic{N: integer.Of(1), E: -1}},
		{P: poly.Of(-1, 2), Lo: api.Dyadic{}, Hi: api.Dyadic{N: integer.Of(1), E: 1025}},
		{P: append(make(api.Poly, 17), integer.Of(1)), Lo: api.Dyadic{}, Hi: api.Dyadic{}},
	} {
		for n := range 4 {
			for at := range n + 1 {
				var times []api.Root
				for k := range n {
					times = append(times, moment(k*k-3*k, 3))
				}
				l, e := contact.First(contactsAt(slices.Insert(times, at, r)...))
				if l != nil || e != api.ErrArg {
					t.Error("First with the wrong time", i, "at", at, "is", l, e)
				}
			}
		}
	}
}

// P14.5: further errors are those of Cmp, behind ErrArg.
func TestFirstOfLargeTimes(t *testing.T) {
	r := rand.New(rand.NewPCG(3, 14))
	// (2 t - 1) times a polynomial with great coefficients above 0
	large := func() api.Root {
		var p api.Poly
		for range 16 {
			l := make([]uint32, 250)
			for i := range l {
				l[i] = r.Uint32() | 1
			}
			p = append(p, api.Int{L: l})
		}
		p, e := poly.Mul(p, poly.Of(-1, 2))
		expect(t, e, api.OK, "the error of Mul")
		return api.Root{P: p, Lo: api.Dyadic{N: integer.Of(1), E: 2}, Hi: api.Dyadic{N: integer.Of(3), E: 2}}
	}
	a, b := large(), large()
	_, want := root.Cmp(a, b)
	if want == api.OK {
		t.Fatal("Cmp has no error")
	}
	l, e := contact.First(contactsAt(moment(7, 3), a, moment(7, 3), b))
	if l != nil || e != want {
		t.Error("First of large times is", l, e)
	}
	l, e = contact.First(contactsAt(a, b, api.Root{}))
	if l != nil || e != api.ErrArg {
		t.Error("First of large times and a wrong one is", l, e)
	}
	expectFirst(t, contactsAt(a, moment(1, 3), b), 1)
}

// P14.5: random times, against comparisons of all pairs.
func TestFirstOfRandomTimes(t *testing.T) {
	r := rand.New(rand.NewPCG(4, 14))
	several := 0
	for range 300 {
		var times []api.Root
		for range 1 + r.IntN(6) {
			switch n := 1 + r.IntN(7); r.IntN(3) {
			case 0:
				times = append(times, moment(n, 3))
			case 1:
				times = append(times, between(t, poly.Of(-n*n, 0, 64)))
			default:
				times = append(times, between(t, poly.Of(-n, 0, 8)))
			}
		}
		var want []int
		for i, a := range times {
			if !slices.ContainsFunc(times, func(b api.Root) bool { return order(t, b, a) < 0 }) {
				want = append(want, i)
			}
		}
		if len(want) > 1 {
			several++
		}
		expectFirst(t, contactsAt(times...), want...)
	}
	if several < 30 {
		t.Error("only", several, "lists with several first contacts")
	}
}
