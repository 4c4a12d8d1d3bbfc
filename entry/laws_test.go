package entry_test

import (
	"math/rand/v2"
	"testing"

	"pinball/api"
	"pinball/entry"
	"pinball/integer"
	"pinball/poly"
	"pinball/root"
)

// P5.4: no list holds before First; it holds at times very near behind it.
func TestHoldsBehindFirst(t *testing.T) {
	r := rand.New(rand.NewPCG(3, 5))
	for range 300 {
		l := randomList(r)
		first, found, e := entry.First(l)
		if e != api.OK {
			t.Fatal("First:", e, l)
		}
		for k := range 128 {
			x := dy(k, 7)
			if holdsAt(t, l, x) && (!found || order(t, first, point(t, k, 7)) > 0) {
				t.Fatal("holds before First:", l, first, x)
			}
		}
		if !found {
			continue
		}
		for _, digits := range []int{32, 64} {
			n, _ := root.Floor(first, digits)
			n, _ = integer.Add(n, integer.Of(2))
			behind, _ := root.Of(api.Dyadic{N: n, E: digits})
			if !holdsAt(t, l, gap(t, first, behind)) {
				t.Fatal("does not hold behind First:", l, first, behind)
			}
		}
	}
}

// P5.4: the order of the conjunctions and of their polynomials does not matter.
func TestOrderDoesNotMatter(t *testing.T) {
	r := rand.New(rand.NewPCG(4, 5))
	for range 200 {
		l := randomList(r)
		first, found, e := entry.First(l)
		if e != api.OK {
			t.Fatal("First:", e, l)
		}
		for range 3 {
			r.Shuffle(len(l), func(i, j int) { l[i], l[j] = l[j], l[i] })
			for _, c := range l {
				r.Shuffle(len(c), func(i, j int) { c[i], c[j] = c[j], c[i] })
			}
			if found {
				expect(t, l, first)
			} else {
				expect(t, l)
			}
		}
	}
}

// P5.2: Within, where the times are few, at both ends and outside.
func TestWithin(t *testing.T) {
	half, one := poly.Of(-1, 2), poly.Of(-1, 1)
	for _, c := range []struct {
		l    list
		want bool
	}{
		{nil, false}, {list{}, false}, {list{{}}, true}, {list{nil, {nil}}, true}, {list{{nil}}, false},
		{list{{one}}, false}, {list{{half}}, true}, {list{{not(one)}}, true}, {list{{poly.Of(0, -1)}}, false}, {list{{poly.Of(0, 1)}}, true},
		{list{{poly.Of(1)}}, true}, {list{{poly.Of(0)}}, false}, {list{{poly.Of(-1)}, {one}}, false}, {list{{poly.Of(-1)}, {half}}, true},
		{list{{line(plus(bit(199), -1), bit(199))}}, true},           // at 1, and very near before it
		{list{{line(plus(bit(199), 1), bit(199))}}, false},           // very near behind 1
		{list{{line(bit(0), minus(bit(199)))}}, false},               // very near before 0
		{list{{not(line(bit(0), bit(199)))}}, true},                  // at 0, and very near behind it
		{list{{not(line(bit(0), bit(199))), poly.Of(0, -1)}}, false}, // before 0 or behind it
		{list{{by(one, one)}}, true}, {list{{not(by(one, one))}}, false}, {list{{by(half, half)}}, true}, {list{{not(by(half, half))}}, false},
		{list{{half, not(half)}}, false}, {list{{half, not(half)}, {half, one}}, false}, {list{{half, not(one)}}, true}, {list{{half, poly.Of(3, -4)}}, true},
		{list{{poly.Of(1, 1), poly.Of(-3, 1)}}, false}, {list{{poly.Of(-1, -1)}}, false}, {list{{by(poly.Of(1, 1), poly.Of(-3, 1))}}, false},
	} {
		for _, l := range []list{c.l, each(c.l, rough)} {
			if holds, e := entry.Within(l); e != api.OK || holds != c.want {
				t.Error("Within:", c.l, holds, e)
			}
		}
	}
}
