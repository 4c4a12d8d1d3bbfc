package contact_test

import (
	"math/big"
	"math/rand/v2"
	"slices"
	"testing"

	"pinball/api"
	"pinball/arc"
	"pinball/contact"
	"pinball/entry"
	"pinball/flight"
	"pinball/flipper"
	"pinball/integer"
	"pinball/layout"
	"pinball/root"
	"pinball/wall"
)

// allOf is All in the words of the chapter, for arguments without errors: every ball and every obstacle is looked at.
func allOf(t *testing.T, x api.Table, s api.State, m []api.Motion, next []int) []api.Contact {
	var l []api.Contact
	look := func(ball, kind, index int, conjunctions [][]api.Poly) {
		r, found, e := entry.First(conjunctions)
		expect(t, e, api.OK, "the error of First")
		if found {
			l = append(l, api.Contact{Ball: ball, Kind: kind, Index: index, At: r})
		}
	}
	for i, b := range s.Balls {
		if b.Where == api.InTrough {
			continue
		}
		active := contact.Active(x, s, i)
		for k, o := range x.Walls {
			if active[k] {
				look(i, api.KindWall, k, wall.Capsule(m[i], o.A, o.B, x.Radius))
			}
		}
		for k, o := range x.Arcs {
			if o.Level == b.Level {
				look(i, api.KindArc, k, arc.Conditions(m[i], o, x.Radius))
			}
		}
		for k, o := range x.Posts {
			if o.Level == b.Level {
				look(i, api.KindPost, k, wall.Disc(m[i], o.C, x.Radius+o.Size))
			}
		}
		for k, o := range x.Flippers {
			if o.Level == b.Level {
				look(i, api.KindFlipper, k, flipper.Conditions(m[i], o, s.K[k], next[k], x.Radius))
			}
		}
		for k, o := range s.Balls {
			if k > i && o.Where != api.InTrough && o.Level == b.Level {
				difference := api.Motion{P: minus(m[i].P, m[k].P), V: minus(m[i].V, m[k].V), H: minus(m[i].H, m[k].H)}
				look(i, api.KindBall, k, wall.Disc(difference, vec(0, 0), 2*x.Radius))
			}
		}
	}
	return l
}

// expectSameContacts checks that two lists have the same contacts at the same times.
func expectSameContacts(t *testing.T, got, want []api.Contact, what ...any) {
	t.Helper()
	same := func(a, b api.Contact) bool {
		return a.Ball == b.Ball && a.Kind == b.Kind && a.Index == b.Index && order(t, a.At, b.At) == 0
	}
	if !slices.EqualFunc(got, want, same) {
		t.Error(append(what, "has the contacts", got, "instead of", want)...)
	}
}

// P14.4: the contacts of random ticks.
func TestAllOfRandomTicks(t *testing.T) {
	r := rand.New(rand.NewPCG(8, 14))
	kinds := [6]int{}
	for range 1500 {
		x, s := scenery(r)
		m, next := flights(r, x, s)
		l, e := contact.All(x, s, m, next)
		expect(t, e, api.OK, "the error of All")
		expectSameContacts(t, l, allOf(t, x, s, m, next), x, s, m, next)
		for _, c := range l {
			kinds[c.Kind]++
			expect(t, root.Valid(c.At) && sign(t, c.At, 0, 0) >= 0 && sign(t, c.At, 1, 0) < 0, true, "a time from 0 to 1 of", c)
		}
	}
	for kind := api.KindWall; kind <= api.KindBall; kind++ {
		if kinds[kind] < 50 {
			t.Error("only", kinds[kind], "contacts of the kind", kind)
		}
	}
}

// P14.4: balls that pass obstacles closely at any side of them, where boxes of flights and obstacles may only just meet.
func TestAllWithCloseBalls(t *testing.T) {
	r := rand.New(rand.NewPCG(9, 14))
	found := 0
	for range 6000 {
		elements := []any{line(api.WallPlain, 0, 0, 0, some(r, 300), 1+r.IntN(300)), post(0, 0, 0, r.IntN(60)), bat(0, 0, 0, 1+r.IntN(400)), bow(0, vec(0, 0), ends(50)[3], ends(50)[4+r.IntN(4)]), api.Lane{Size: 1}}
		x := table(2, elements[r.IntN(len(elements))])
		o := nearby(r, x, api.State{})
		o = plus(o, anywhere(r, 3))
		v, h := anywhere(r, 40), anywhere(r, 20)
		m := []api.Motion{{P: plus(o, vec(0, 0)), V: v, H: h}, {P: plus(o, times(40, ends(1)[r.IntN(12)])), V: minus(anywhere(r, 3), v), H: h}}
		s := begin(x, m...)
		if len(x.Flippers) > 0 {
			s.K[0] = some(r, 80)
		}
		if contact.Valid(x, s) != api.OK {
			continue
		}
		l, e := contact.All(x, s, m, s.K)
		expect(t, e, api.OK, "the error of All")
		expectSameContacts(t, l, allOf(t, x, s, m, s.K), x, s, m)
		found += len(l)
	}
	if found < 1000 {
		t.Error("only", found, "contacts")
	}
}

// samples are times of a tick: all 24ths, and some more.
func samples() []*big.Rat {
	l := []*big.Rat{ratio(1, 1000), ratio(999, 1000), ratio(4999, 10000), ratio(5001, 10000)}
	for n := range 25 {
		l = append(l, ratio(n, 24))
	}
	return l
}

// before reports whether the value of r is greater than t.
func before(t *testing.T, when *big.Rat, r api.Root) bool {
	t.Helper()
	n, e := integer.Parse(when.Num().String())
	d, f := integer.Parse(when.Denom().String())
	if e != api.OK || f != api.OK {
		t.Fatal("the test's time")
	}
	// The value of r is greater if d t - n is positive there.
	s, e := root.Sign(r, api.Poly{integer.Neg(n), d})
	expect(t, e, api.OK, "the error of Sign")
	return s > 0
}

// meets reports whether a ball is in an obstacle at a time; k are the tangents of the flippers then.
func meets(x api.Table, m []api.Motion, when *big.Rat, ball, kind, index int, k []*big.Rat) bool {
	p := position(m[ball], when)
	switch kind {
	case api.KindWall:
		return bySegment(p, at(x.Walls[index].A), at(x.Walls[index].B), x.Radius)
	case api.KindArc:
		return byArc(p, x.Arcs[index], x.Radius)
	case api.KindPost:
		return p.less(at(x.Posts[index].C)).shorter(x.Radius + x.Posts[index].Size)
	case api.KindFlipper:
		return byBlade(p, x.Flippers[index], k[index], x.Radius)
	}
	return p.less(position(m[index], when)).shorter(2 * x.Radius)
}

// tangents are those of the flippers at a time.
func tangents(s api.State, next []int, when *big.Rat) []*big.Rat {
	var l []*big.Rat
	for i, k := range s.K {
		u := new(big.Rat).Mul(ratio(next[i]-k, 1), when)
		l = append(l, u.Add(u, ratio(k, 1)))
	}
	return l
}

// P14.4 and P14.7: a ball is in no obstacle before it has a contact with it, and at no time if it has none, by nearest points in rational numbers.
func TestNoBallOverlapsBeforeItsContact(t *testing.T) {
	r := rand.New(rand.NewPCG(10, 14))
	looked, entered, quiet := 0, 0, 0
	for range 250 {
		x, s := scenery(r)
		m, next := flights(r, x, s)
		l, _ := contact.All(x, s, m, next)
		if len(l) == 0 {
			quiet++
		}
		counts := [6]int{0, len(x.Walls), len(x.Arcs), len(x.Posts), len(x.Flippers), len(s.Balls)}
		for _, when := range samples() {
			k := tangents(s, next, when)
			for ball, b := range s.Balls {
				for kind := api.KindWall; kind <= api.KindBall; kind++ {
					for index := range counts[kind] {
						if !there(x, s, ball, kind, index) || !meets(x, m, when, ball, kind, index, k) {
							continue
						}
						looked++
						i := slices.IndexFunc(l, func(c api.Contact) bool { return c.Ball == ball && c.Kind == kind && c.Index == index })
						if i < 0 {
							t.Error("no contact of ball", ball, b, "with", kind, index, "which it is in at", when)
						} else if before(t, when, l[i].At) {
							t.Error("a contact of ball", ball, b, "with", kind, index, "behind", when, "when it is in it")
						} else {
							entered++
						}
					}
				}
			}
		}
	}
	if looked < 1000 || entered < 1000 || quiet < 30 {
		t.Error("only", looked, entered, quiet, "positions and ticks")
	}
}

// there reports whether an obstacle is there for a ball.
func there(x api.Table, s api.State, ball, kind, index int) bool {
	b := s.Balls[ball]
	if b.Where == api.InTrough {
		return false
	}
	switch kind {
	case api.KindWall:
		return contact.Active(x, s, ball)[index]
	case api.KindArc:
		return x.Arcs[index].Level == b.Level
	case api.KindPost:
		return x.Posts[index].Level == b.Level
	case api.KindFlipper:
		return x.Flippers[index].Level == b.Level
	}
	return index > ball && s.Balls[index].Where != api.InTrough && s.Balls[index].Level == b.Level
}

// P14.7: if there is no contact, no ball overlaps at the end of the tick.
func TestNoOverlapBehindATickWithoutContacts(t *testing.T) {
	r := rand.New(rand.NewPCG(11, 14))
	ticks := 0
	for range 2500 {
		x, s := scenery(r)
		m, next := flights(r, x, s)
		if l, e := contact.All(x, s, m, next); e != api.OK || len(l) > 0 {
			continue
		}
		ticks++
		after := copyOf(s)
		after.K = next
		for i, b := range s.Balls {
			if b.Where != api.InTrough {
				after.Balls[i].P, _ = flight.End(m[i])
			}
		}
		for i, b := range after.Balls {
			if b.Where != api.InTrough && contact.Overlap(x, after, b.Level, b.P, i) {
				t.Error("ball", i, "overlaps behind", x, s, m, next)
			}
		}
	}
	if ticks < 500 {
		t.Error("only", ticks, "ticks without contacts")
	}
}

// P14.4 and P14.6: everything can be moved, and mirrored.
func TestMovedAndMirrored(t *testing.T) {
	r := rand.New(rand.NewPCG(12, 14))
	contacts := 0
	for range 300 {
		x, s := scenery(r)
		m, next := flights(r, x, s)
		l, _ := contact.All(x, s, m, next)
		contacts += len(l)
		by := anywhere(r, coord-20000)
		moved, moves := copyOf(s), slices.Clone(m)
		mirrored, images := copyOf(s), slices.Clone(m)
		for i := range m {
			if s.Balls[i].Where != api.InTrough {
				moved.Balls[i].P, moves[i].P = plus(s.Balls[i].P, by), plus(m[i].P, by)
				mirrored.Balls[i].P, mirrored.Balls[i].V = image(s.Balls[i].P), image(s.Balls[i].V)
				images[i] = api.Motion{P: image(m[i].P), V: image(m[i].V), H: image(m[i].H)}
			}
		}
		y, z := layout.Shift(x, by), layout.Mirror(x)
		a, _ := contact.All(y, moved, moves, next)
		b, _ := contact.All(z, mirrored, images, next)
		expectSameContacts(t, a, l, "moved by", by, x, s, m, next)
		expectSameContacts(t, b, l, "mirrored", x, s, m, next)
		for i := range s.Balls {
			active := contact.Active(x, s, i)
			expect(t, slices.Equal(contact.Active(y, moved, i), active), true, "Active of a table that is moved")
			expect(t, slices.Equal(contact.Active(z, mirrored, i), active), true, "Active of a table that is mirrored")
		}
		for i, c := range l {
			n, w := contact.Normal(x, s, m, next, c)
			p, q := contact.Normal(y, moved, moves, next, a[i])
			expect(t, [2]api.Vec{p, q}, [2]api.Vec{n, w}, "Normal, moved, of", c)
			p, q = contact.Normal(z, mirrored, images, next, b[i])
			expect(t, [2]api.Vec{p, q}, [2]api.Vec{image(n), image(w)}, "Normal, mirrored, of", c)
		}
	}
	if contacts < 200 {
		t.Error("only", contacts, "contacts")
	}
}

// image is a mirrored in X.
func image(a api.Vec) api.Vec {
	return vec(-a.X, a.Y)
}

// P14.4: the order of the elements of a table, and other balls, matter for the numbers only.
func TestOrderOfElements(t *testing.T) {
	r := rand.New(rand.NewPCG(13, 14))
	for range 200 {
		x, s := scenery(r)
		m, next := flights(r, x, s)
		l, _ := contact.All(x, s, m, next)
		y, o, ends := tableCopy(x), copyOf(s), slices.Clone(next)
		slices.Reverse(y.Walls)
		slices.Reverse(y.Arcs)
		slices.Reverse(y.Posts)
		slices.Reverse(y.Flippers)
		slices.Reverse(o.Away)
		slices.Reverse(o.K)
		slices.Reverse(o.Speed)
		slices.Reverse(ends)
		counts := [5]int{0, len(x.Walls), len(x.Arcs), len(x.Posts), len(x.Flippers)}
		a, _ := contact.All(y, o, m, ends)
		for i, c := range a {
			if c.Kind != api.KindBall {
				a[i].Index = counts[c.Kind] - 1 - c.Index
			}
		}
		slices.SortFunc(a, func(c, d api.Contact) int {
			return (c.Ball-d.Ball)*10000 + (c.Kind-d.Kind)*1000 + c.Index - d.Index
		})
		expectSameContacts(t, a, l, "in reverse", x, s, m, next)
		expect(t, contact.Valid(y, o), api.OK, "Valid in reverse")
	}
}

// P14.5: the first contacts of random ticks have the least time of all.
func TestFirstOfRandomTicks(t *testing.T) {
	r := rand.New(rand.NewPCG(14, 14))
	for range 300 {
		x, s := scenery(r)
		m, next := flights(r, x, s)
		l, _ := contact.All(x, s, m, next)
		var want []int
		for i, c := range l {
			if !slices.ContainsFunc(l, func(o api.Contact) bool { return order(t, o.At, c.At) < 0 }) {
				want = append(want, i)
			}
		}
		expectFirst(t, l, want...)
	}
}
