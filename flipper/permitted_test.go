package flipper_test

import (
	"math"
	"testing"

	"pinball/api"
	"pinball/flipper"
)

// expectPermitted checks whether a flipper has results, mirrored too: either all functions
// have some that are not zero, or none has, whatever the other arguments are.
func expectPermitted(t *testing.T, f api.Flipper, want bool) {
	t.Helper()
	for range 2 {
		if want {
			expectResults(t, f)
		} else {
			expectNothing(t, f)
		}
		f.Mirror = !f.Mirror
	}
}

// expectResults checks that a flipper that is permitted has a motion, places and surfaces.
func expectResults(t *testing.T, f api.Flipper) {
	t.Helper()
	ahead := 256
	if f.Mirror {
		ahead = -256
	}
	up, rising := flipper.Next(f, f.Low, 0, true)
	down, falling := flipper.Next(f, f.High, 0, false)
	expect(t, up > f.Low && up <= f.High && rising >= 0, true, "Next rises with", f)
	expect(t, down < f.High && down >= f.Low && falling <= 0, true, "Next falls with", f)
	d, n := flipper.Direction(f, 0)
	expect(t, d, vec(256*ahead, 0), "d of", f)
	expect(t, n, 65536, "n of", f)
	expect(t, flipper.Inside(f.P, f, 0, 1), true, "Inside of", f)
	expect(t, holds(flipper.Conditions(api.Motion{P: f.P}, f, 0, 0, 1), ratio(0, 1)), true, "Conditions of", f)
	p := times(256, f.P)
	expect(t, flipper.Foot(plus(p, vec(ahead, 0)), f, 0, 0, 0), vec(ahead, 0), "Foot of", f)
	expect(t, flipper.Normal(plus(p, vec(0, 256)), f, 0, 0, 0), vec(0, 256), "Normal of", f)
	expect(t, flipper.Surface(vec(256000, 0), f, 0, 16), vec(0, 140*ahead/256), "Surface of", f)
}

// expectNothing checks that a flipper that is not permitted has only zeros.
func expectNothing(t *testing.T, f api.Flipper) {
	t.Helper()
	for _, k := range []int{0, 1, -7, f.Low, f.High, quarter, -quarter} {
		expectStill(t, f, k, 0)
		expectStill(t, f, k, 5)
		expectStill(t, f, k, -64)
		expectNowhere(t, f, k, 0, 100)
		expectNowhere(t, f, 0, k, far)
	}
}

// expectStill checks that Next returns zeros.
func expectStill(t *testing.T, f api.Flipper, k, speed int) {
	t.Helper()
	for _, on := range []bool{false, true} {
		a, b := flipper.Next(f, k, speed, on)
		expect(t, a, 0, "the k of Next of", f, k, speed, on)
		expect(t, b, 0, "the speed of Next of", f, k, speed, on)
	}
}

// expectNowhere checks that the blade has no places and surfaces in a tick, and no direction if it does not move.
func expectNowhere(t *testing.T, f api.Flipper, from, to, reach int) {
	t.Helper()
	if from == to {
		d, n := flipper.Direction(f, from)
		expect(t, d, vec(0, 0), "d of", f, from)
		expect(t, n, 0, "n of", f, from)
	}
	for _, p := range []api.Vec{{}, {X: 3, Y: 9}, {X: -3, Y: 1}, f.P} {
		if from == to {
			expect(t, flipper.Inside(p, f, from, reach), false, "Inside of", p, f, from, reach)
		}
		expect(t, len(flipper.Conditions(api.Motion{P: p}, f, from, to, reach)), 0, "the number of conjunctions of", p, f, from, to, reach)
		for _, q := range []api.Vec{p, times(256, p), vec(256*p.X+5000, 256*p.Y+5000), vec(256*p.X-5000, 256*p.Y+5000)} {
			expect(t, flipper.Foot(q, f, from, to, 7), vec(0, 0), "Foot of", q, f, from, to)
			expect(t, flipper.Normal(q, f, from, to, 7), vec(0, 0), "Normal of", q, f, from, to)
			expect(t, flipper.Surface(q, f, from, to), vec(0, 0), "Surface of", q, f, from, to)
		}
	}
}

// bound is a number of a flipper that may be from least to greatest, if nothing else forbids it.
type bound struct {
	of              func(f *api.Flipper) *int
	least, greatest int
}

// bounds are those of all numbers that matter; Low must be below 100, and High above -100.
func bounds() []bound {
	return []bound{
		{func(f *api.Flipper) *int { return &f.P.X }, -coord, coord},
		{func(f *api.Flipper) *int { return &f.P.Y }, -coord, coord},
		{func(f *api.Flipper) *int { return &f.Length }, 1, size},
		{func(f *api.Flipper) *int { return &f.Low }, -quarter, 99},
		{func(f *api.Flipper) *int { return &f.High }, -99, quarter},
		{func(f *api.Flipper) *int { return &f.Up }, 1, swift},
		{func(f *api.Flipper) *int { return &f.Down }, 1, swift},
		{func(f *api.Flipper) *int { return &f.Max }, 1, swift},
	}
}

// common is a flipper whose numbers are far from the ends of their ranges.
func common() api.Flipper {
	f := bat(vec(300, -200), 900)
	f.Low, f.High = -100, 100
	return f
}

// P13.1 to P13.4: every number at the ends of its range, one beyond them, and far beyond.
func TestBounds(t *testing.T) {
	for _, b := range bounds() {
		for _, n := range []int{b.least, b.least + 1, b.greatest, b.greatest - 1} {
			f := common()
			*b.of(&f) = n
			expectPermitted(t, f, true)
		}
		for _, n := range append(beyond(max(b.greatest, -b.least)), b.least-1, b.greatest+1, -b.greatest-1, math.MinInt, math.MaxInt) {
			f := common()
			*b.of(&f) = n
			if n < b.least || n > b.greatest {
				expectPermitted(t, f, false)
			}
		}
	}
}

// P13.1 to P13.4: all numbers at the ends of their ranges at once.
func TestAllBounds(t *testing.T) {
	f := api.Flipper{P: vec(coord, -coord), Length: size, Low: -quarter, High: quarter, Up: swift, Down: swift, Max: 8}
	expectPermitted(t, f, true)
	expectPermitted(t, api.Flipper{P: vec(-coord, coord), Length: 1, Low: -quarter, High: 1 - quarter, Up: 1, Down: 1, Max: 1}, true)
	expectPermitted(t, api.Flipper{}, false)
	expectPermitted(t, api.Flipper{Length: math.MinInt, Low: math.MinInt, High: math.MinInt, Up: math.MinInt, Down: math.MinInt, Max: math.MinInt}, false)
	expectPermitted(t, api.Flipper{P: vec(math.MinInt, math.MinInt), Length: math.MaxInt, Low: math.MinInt, High: math.MaxInt, Up: math.MaxInt, Down: math.MaxInt, Max: math.MaxInt}, false)
}

// P13.1 to P13.4: Low below High, equal to it and above it.
func TestLowAndHigh(t *testing.T) {
	for _, o := range []struct {
		low, high int
		want      bool
	}{
		{0, 1, true}, {0, 0, false}, {1, 0, false}, {-1, 0, true}, {-1, -1, false}, {5, 6, true}, {6, 6, false}, {7, 6, false}, {-9, 9, true}, {9, -9, false},
		{quarter - 1, quarter, true}, {quarter, quarter, false}, {quarter, quarter - 1, false}, {-quarter, 1 - quarter, true}, {-quarter, -quarter, false}, {1 - quarter, -quarter, false}, {quarter, -quarter, false}, {-quarter, quarter, true},
		{-quarter - 1, 0, false}, {0, quarter + 1, false}, {-quarter - 1, quarter + 1, false}, {quarter, quarter + 1, false}, {-quarter - 1, -quarter, false},
		{math.MinInt, 0, false}, {0, math.MaxInt, false}, {math.MinInt, math.MaxInt, false}, {math.MaxInt, math.MinInt, false}, {math.MinInt, math.MinInt, false}, {1 << 62, -1 << 62, false}, {0, math.MinInt, false}, {math.MaxInt, 0, false},
	} {
		f := bat(vec(-7, 12), 500)
		f.Low, f.High = o.low, o.high
		expectPermitted(t, f, o.want)
	}
}

// P13.1 to P13.4: the product of Max and Length at 2^21 and beyond it.
func TestSweep(t *testing.T) {
	for _, o := range []struct {
		most, length int
		want         bool
	}{
		{64, 32768, true}, {64, 32769, false}, {63, 33288, true}, {63, 33289, false}, {8, size, true}, {9, size, false}, {9, 233016, true}, {9, 233017, false}, {1, size, true}, {1, size + 1, false}, {64, size, false}, {64, 1, true}, {65, 1, false},
		{16, 131072, true}, {17, 131072, false}, {16, 131073, false}, {1, field, false}, {field, 1, false}, {1 << 32, 1 << 32, false}, {1 << 33, 1 << 31, false}, {math.MaxInt, 2, false}, {math.MinInt, 2, false}, {2, math.MinInt, false}, {-8, -size, false}, {-1, -1, false}, {-1, 500, false}, {1, -500, false}, {0, 0, false},
	} {
		f := bat(vec(40, 50), o.length)
		f.Max = o.most
		expectPermitted(t, f, o.want)
	}
}

// P13.1 to P13.4: what a flipper is called, where it is connected and how it feels does not matter.
func TestOtherFieldsDoNotMatter(t *testing.T) {
	for _, n := range []int{0, 3, -1, 16, 64, math.MinInt, math.MaxInt} {
		for _, name := range []string{"", "left", "Not a name!", "averyveryverylongname"} {
			f := bat(vec(40, 50), 500)
			f.Name, f.Level, f.Rest, f.Grip, f.Coil, f.Switch = name, n, n, n, n, n
			expectPermitted(t, f, true)
			k, speed := flipper.Next(f, 7, 3, true)
			expect(t, k, 14, "the k of Next of", f)
			expect(t, speed, 7, "the speed of Next of", f)
			expect(t, flipper.Inside(vec(290, 59), f, 0, 10), true, "Inside of", f)
			expect(t, flipper.Inside(vec(290, 60), f, 0, 10), false, "Inside of", f)
			expect(t, flipper.Normal(times(256, vec(290, 60)), f, 0, 0, 3), vec(0, 2560), "Normal of", f)
		}
	}
}

// P13.1 to P13.4: half-angle tangents at the ends of their range and beyond them.
func TestTangents(t *testing.T) {
	f := bat(vec(3, 4), 500)
	f.Low, f.High = -20, 30 // tangents may be beyond them
	for _, k := range []int{0, -20, 30, -21, 31, quarter, -quarter, quarter - 1, 1 - quarter} {
		expectTangent(t, f, k)
	}
	for _, k := range beyond(quarter) {
		expectStill(t, f, k, 0)
		expectStill(t, f, k, 5)
		expectStill(t, f, k, -64)
		for _, o := range []int{0, quarter, -quarter} {
			expectNowhere(t, f, k, o, 100)
			expectNowhere(t, f, o, k, 100)
		}
		expectNowhere(t, f, k, k, 100)
		expectNowhere(t, f, k, -k, 100)
	}
}

// expectTangent checks that a tangent is permitted for all functions.
func expectTangent(t *testing.T, f api.Flipper, k int) {
	t.Helper()
	a, b := flipper.Next(f, k, 0, true)
	expect(t, a != 0 || b != 0, true, "Next of", k)
	_, n := flipper.Direction(f, k)
	expect(t, n, 65536+k*k, "n of", k)
	expect(t, flipper.Inside(f.P, f, k, 1), true, "Inside of", k)
	for _, move := range [][2]int{{k, 0}, {0, k}, {k, k}, {k, -k}} {
		from, to := move[0], move[1]
		expect(t, len(flipper.Conditions(api.Motion{P: f.P}, f, from, to, 1)) > 0, true, "Conditions of", from, to)
		ahead := heading(f, tangent(from, to, ratio(1, 2))).scaled(ratio(25600, 1)).cut()
		expect(t, flipper.Foot(plus(times(256, f.P), ahead), f, from, to, 8) != vec(0, 0), true, "Foot of", from, to)
		expect(t, flipper.Normal(minus(times(256, f.P), ahead), f, from, to, 8), times(-1, ahead), "Normal of", from, to)
		expect(t, flipper.Surface(vec(1<<20, 0), f, from, to) != vec(0, 0), from != to, "Surface of", from, to)
	}
}
