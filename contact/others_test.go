package contact_test

import (
	"math"
	"math/rand/v2"
	"testing"

	"pinball/api"
	"pinball/contact"
)

// extreme is a random number, often at the ends of the ints or of a range.
func extreme(r *rand.Rand) int {
	l := []int{math.MinInt, math.MinInt + 1, -1 << 62, -1 << 32, -1<<30 - 1, -1 << 21, -coord - 1, -coord, -2, -1, 0, 1, 2, 3, 4, 5, 64, 100, coord, coord + 1, 1 << 21, 1<<30 + 1, 1 << 32, 1 << 62, math.MaxInt - 1, math.MaxInt}
	return l[r.IntN(len(l))]
}

// wild is a table with a state of another shape, both with extreme numbers, and a tick of it.
func wild(r *rand.Rand) (api.Table, api.State, []api.Motion, []int) {
	n := func() int { return extreme(r) }
	v := func() api.Vec { return vec(n(), n()) }
	t := api.Table{Radius: n(), Balls: r.IntN(4)}
	for range r.IntN(4) {
		t.Walls = append(t.Walls, api.Wall{Kind: r.IntN(6), Level: r.IntN(2), A: v(), B: v()})
		t.Arcs = append(t.Arcs, api.Arc{Level: r.IntN(2), C: v(), S: v(), E: v()})
		t.Posts = append(t.Posts, api.Post{Level: r.IntN(2), C: v(), Size: n()})
		t.Flippers = append(t.Flippers, api.Flipper{Level: r.IntN(2), P: v(), Length: n(), Low: n(), High: n(), Up: n(), Down: n(), Max: n()})
		t.Saucers = append(t.Saucers, api.Saucer{Level: r.IntN(2), C: v(), Size: n()})
	}
	s := api.State{Tick: n()}
	var m []api.Motion
	var next []int
	for range r.IntN(4) {
		s.Balls = append(s.Balls, api.Ball{Where: r.IntN(4), Slot: n(), Level: r.IntN(2), P: v(), V: v()})
		s.K, s.Speed, s.Away = append(s.K, n()), append(s.Speed, n()), append(s.Away, r.IntN(2) == 0)
		m, next = append(m, api.Motion{P: v(), V: v(), H: v()}), append(next, n())
	}
	return t, s, m, next
}

// R1 and R2: every function returns for all arguments, and has no other results with an error.
func TestWildArguments(t *testing.T) {
	r := rand.New(rand.NewPCG(15, 14))
	for range 20000 {
		x, s, m, next := wild(r)
		valid := contact.Valid(x, s)
		l, e := contact.All(x, s, m, next)
		if valid != api.OK && e != valid || e != api.OK && l != nil {
			t.Error("All of", x, s, m, next, "is", l, e)
		}
		expect(t, len(contact.Active(x, s, r.IntN(5)-1)), len(x.Walls), "the length of Active")
		contact.Overlap(x, s, r.IntN(2), vec(extreme(r), extreme(r)), r.IntN(4))
		c := api.Contact{Ball: r.IntN(4), Kind: r.IntN(7), Index: r.IntN(4), At: moment(1, 1)}
		if a, b := contact.Normal(x, s, m, next, c); e != api.OK && (a != vec(0, 0) || b != vec(0, 0)) {
			t.Error("Normal of", c, "is", a, b)
		}
		contact.Key(api.Contact{Ball: extreme(r), Kind: extreme(r), Index: extreme(r)}, extreme(r))
	}
}
