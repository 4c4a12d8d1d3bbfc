package vector_test

import (
	"slices"
	"testing"

	"pinball/api"
	"pinball/vector"
)

// R3: Lift changes neither the list nor its spare capacity, and keeps neither.
func TestListStays(t *testing.T) {
	for _, x := range []api.Vec{{}, vec(3, -4), vec(-end, 5), vec(1, 1), vec(end+1, 0)} {
		for _, l := range [][]api.Vec{nil, {{}}, {vec(0, 1)}, {vec(0, 1), {}, vec(0, 1), vec(-1, -2), vec(7, -8), vec(1, 1)}, {vec(0, 1), vec(end+1, 2), vec(3, 3)}} {
			full := append(slices.Clone(l), vec(-3, 4), vec(end+1, end), vec(0, -1))
			before := slices.Clone(full)
			y := vector.Lift(x, full[:len(l)])
			if !slices.Equal(full, before) {
				t.Error("Lift of", x, "has changed", l, full)
			}
			expect(t, y, vector.Lift(x, slices.Clip(slices.Clone(l))), "Lift with spare capacity of", x, l)
			clear(full)
			expect(t, vector.Lift(x, l), y, "Lift after a change of", x, l)
		}
	}
}
