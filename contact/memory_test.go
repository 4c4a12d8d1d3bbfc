package contact_test

import (
	"math/rand/v2"
	"slices"
	"testing"

	"pinball/api"
	"pinball/contact"
	"pinball/layout"
)

// sameInt reports whether two Ints have the same limbs.
func sameInt(a, b api.Int) bool {
	return a.Neg == b.Neg && slices.Equal(a.L, b.L)
}

// alike reports whether two contacts have the same numbers, with the same limbs.
func alike(a, b api.Contact) bool {
	return a.Ball == b.Ball && a.Kind == b.Kind && a.Index == b.Index && slices.EqualFunc(a.At.P, b.At.P, sameInt) &&
		sameInt(a.At.Lo.N, b.At.Lo.N) && a.At.Lo.E == b.At.Lo.E && sameInt(a.At.Hi.N, b.At.Hi.N) && a.At.Hi.E == b.At.Hi.E
}

// spoil writes into all memory of a number, up to its capacity.
func spoil(a api.Int) {
	l := a.L[:cap(a.L)]
	for i := range l {
		l[i] = 0x5a5a5a5a
	}
}

// expectSeparate checks that writing into one part of a list, or appending to it, reaches no other part of it.
func expectSeparate(t *testing.T, l, want []api.Contact) {
	t.Helper()
	expect(t, slices.EqualFunc(l, want, alike), true, "the list before")
	for i := range l {
		c := &l[i]
		for _, part := range []struct{ part, as *api.Int }{{&c.At.Lo.N, &want[i].At.Lo.N}, {&c.At.Hi.N, &want[i].At.Hi.N}} {
			spoil(*part.part)
			*part.part = *part.as
			expect(t, slices.EqualFunc(l, want, alike), true, "the list without an end of contact", i)
		}
		for k := range c.At.P {
			spoil(c.At.P[k])
			c.At.P[k] = want[i].At.P[k]
			expect(t, slices.EqualFunc(l, want, alike), true, "the list without a coefficient of contact", i)
		}
		p := append(c.At.P, api.Int{L: []uint32{99}})
		clear(p[:cap(p)])
		c.At.P = want[i].At.P
		clear(c.At.P[len(c.At.P):cap(c.At.P)])
		expect(t, slices.EqualFunc(l, want, alike), true, "the list without the polynomial of contact", i)
	}
	clear(l[:cap(l)])
}

// roomy is l with spare capacity that holds filler.
func roomy[E any](l []E, filler E) []E {
	r := append(slices.Clone(l), filler, filler)
	return r[:len(l)]
}

// spare is the memory behind the end of l.
func spare[E any](l []E) []E {
	return l[len(l):cap(l)][:2]
}

// filledState is s with spare capacity in all lists.
func filledState(s api.State) api.State {
	s.Balls, s.K, s.Speed, s.Away = roomy(s.Balls, api.Ball{Slot: 77}), roomy(s.K, 77), roomy(s.Speed, 77), roomy(s.Away, true)
	return s
}

// sameState reports whether two states are equal.
func sameState(a, b api.State) bool {
	return a.Tick == b.Tick && a.Coils == b.Coils && slices.Equal(a.Balls, b.Balls) && slices.Equal(a.K, b.K) && slices.Equal(a.Speed, b.Speed) && slices.Equal(a.Away, b.Away)
}

// R3: arguments stay as they were, with their spare capacity.
func TestArgumentsStay(t *testing.T) {
	r := rand.New(rand.NewPCG(5, 14))
	for range 100 {
		x, s := scenery(r)
		m, next := flights(r, x, s)
		y, o := tableCopy(x), copyOf(s)
		s, m, next = filledState(s), roomy(m, fly(7, 7, 7, 7, 7, 7)), roomy(next, 77)
		motions, ends := slices.Clone(m), slices.Clone(next)
		contact.Valid(x, s)
		contact.Active(x, s, 0)
		contact.Overlap(x, s, 0, vec(1, 2), 0)
		l, _ := contact.All(x, s, m, next)
		for _, c := range l {
			contact.Normal(x, s, m, next, c)
		}
		expect(t, layout.Same(x, y) && sameState(s, o) && slices.Equal(m, motions) && slices.Equal(next, ends), true, "the arguments stay")
		expect(t, spare(s.Balls)[0] == api.Ball{Slot: 77} && spare(s.K)[1] == 77 && spare(s.Speed)[0] == 77 && spare(s.Away)[1] && spare(m)[0] == fly(7, 7, 7, 7, 7, 7) && spare(next)[0] == 77, true, "their spare capacity stays")
	}
}

// R3: results of All share no memory, neither among themselves nor with other calls.
func TestAllIsNew(t *testing.T) {
	r := rand.New(rand.NewPCG(6, 14))
	contacts := 0
	for range 150 {
		x, s := scenery(r)
		m, next := flights(r, x, s)
		a, e := contact.All(x, s, m, next)
		b, _ := contact.All(x, s, m, next)
		expect(t, e, api.OK, "the error of All")
		contacts += len(a)
		expectSeparate(t, a, b)
		c, _ := contact.All(x, s, m, next)
		expect(t, slices.EqualFunc(b, c, alike), true, "the same contacts again")
	}
	if contacts < 100 {
		t.Error("only", contacts, "contacts")
	}
}

// R3: results of First share no memory with its argument, which stays as it was.
func TestFirstIsNew(t *testing.T) {
	list := func() []api.Contact {
		l := contactsAt(append(halves(t), moment(0, 0), moment(0, 3))...)
		for i := range l {
			p := &l[i].At
			p.P, p.Lo.N.L, p.Hi.N.L = roomy(p.P, api.Int{L: []uint32{77}}), roomy(p.Lo.N.L, 77), roomy(p.Hi.N.L, 77)
			for k := range p.P {
				p.P[k].L = roomy(p.P[k].L, 77)
			}
		}
		return l
	}
	for _, n := range []int{1, 3, 7, 8, 9} {
		l := roomy(list()[:n], api.Contact{Ball: 77})
		a, e := contact.First(l)
		b, _ := contact.First(list()[:n])
		expect(t, e, api.OK, "the error of First")
		expectSeparate(t, a, b)
		expect(t, slices.EqualFunc(l, list()[:n], alike), true, "the argument stays")
		expect(t, spare(l)[0].Ball, 77, "its spare capacity")
		for _, c := range l {
			if spare(c.At.P)[0].L[0] != 77 || spare(c.At.Lo.N.L)[0] != 77 || spare(c.At.Hi.N.L)[0] != 77 || spare(c.At.P[0].L)[0] != 77 {
				t.Error("the spare capacity of", c, "has changed")
			}
		}
		c, _ := contact.First(l)
		for i := range l {
			spoil(l[i].At.Lo.N)
			spoil(l[i].At.Hi.N)
			for k := range l[i].At.P {
				spoil(l[i].At.P[k])
				l[i].At.P[k] = api.Int{}
			}
		}
		d, _ := contact.First(list()[:n])
		expect(t, slices.EqualFunc(c, d, alike), true, "the result stays")
	}
}

// R3: the result of Active is new.
func TestActiveIsNew(t *testing.T) {
	x := table(1, line(api.WallPlain, 0, 0, 0, 900, 0), line(api.WallGate, 0, 0, 0, 900, 0), line(api.WallTarget, 0, 0, 0, 900, 0))
	s := state(x, free(0, 0, 500))
	a, b := contact.Active(x, s, 0), contact.Active(x, s, 0)
	clear(a[:cap(a)])
	expect(t, slices.Equal(b, []bool{true, true, true}), true, "another result")
	expect(t, slices.Equal(s.Away, []bool{false, false, false}), true, "the argument")
	b[0] = false
	expect(t, contact.Active(x, s, 0)[0], true, "the same result again")
}
