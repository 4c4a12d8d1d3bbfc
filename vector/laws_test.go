package vector_test

import (
	"math/rand/v2"
	"testing"

	"pinball/vector"
)

// P6.5: Lift never returns a vector that points against one of the list, and returns
// what it is given back unchanged; it does not depend on the order of the list.
func TestLiftLaws(t *testing.T) {
	r := rand.New(rand.NewPCG(6, 6))
	for k := range 20000 {
		x, l := randomCase(r, k)
		y := vector.Lift(x, l)
		if !vector.Small(y) || against(y, l) {
			t.Error("Lift of", x, "points against one of", l, y)
		}
		expect(t, vector.Lift(y, l), y, "Lift of a result with", l)
		expect(t, vector.Lift(mirror(x), mirrored(l)), mirror(y), "Lift of the mirrored", x, l)
		r.Shuffle(len(l), func(i, j int) { l[i], l[j] = l[j], l[i] })
		expect(t, vector.Lift(x, l), y, "Lift, in another order,", x, l)
	}
}

// P6.5: Turn does not increase the length, and goes toward n if that is farther than
// the angle of the turn, whose cosine is 255/257; otherwise it goes beyond n.
func TestTurnLaws(t *testing.T) {
	r := rand.New(rand.NewPCG(7, 6))
	for k := range 20000 {
		v, n := randomVec(r), randomVec(r)
		if k%2 == 0 { // near the direction of v
			n = vec(v.X/2+r.IntN(1+end/16), v.Y/2+r.IntN(1+end/16))
		}
		v = vec(v.X/257*257, v.Y/257*257) // nothing is truncated
		w, ok := vector.Turn(v, n)
		if ok != (cross(n, v).Sign() != 0) {
			t.Error("Turn of", v, "toward", n, "reports", ok)
		}
		if !ok {
			continue
		}
		if dot(w, w).Cmp(dot(v, v)) != 0 {
			t.Error("Turn of", v, "toward", n, "changes the length:", w)
		}
		if times(257, dot(v, w)).Cmp(times(255, dot(v, v))) != 0 {
			t.Error("Turn of", v, "is not by its angle:", w)
		}
		// The angle between v and n is greater if n is on the same side of w as of v.
		if cross(n, v).Sign() == cross(n, w).Sign() && dot(w, n).Cmp(dot(v, n)) <= 0 {
			t.Error("Turn of", v, "does not go toward", n, w)
		}
	}
	for range 20000 {
		v, n := shortVec(r, 1000), shortVec(r, 1000)
		w, _ := vector.Turn(v, n)
		if dot(w, w).Cmp(dot(v, v)) > 0 {
			t.Error("Turn of", v, "increases the length:", w)
		}
	}
}

// P6.5: mirrored arguments have mirrored results.
func TestMirrored(t *testing.T) {
	for _, a := range samples() {
		expect(t, vector.Reduce(mirror(a)), mirror(vector.Reduce(a)), "Reduce of the mirrored", a)
		expect(t, vector.Halve(mirror(a)), mirror(vector.Halve(a)), "Halve of the mirrored", a)
		for _, n := range samples() {
			v, ok := vector.Turn(a, n)
			expectTurn(t, a, n, v, ok)
		}
	}
}
