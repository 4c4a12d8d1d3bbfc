package flipper_test

import (
	"math"
	"testing"

	"pinball/api"
	"pinball/flipper"
)

// expectNext checks Next, mirrored too.
func expectNext(t *testing.T, f api.Flipper, k, speed int, on bool, toK, toSpeed int) {
	t.Helper()
	for range 2 {
		a, b := flipper.Next(f, k, speed, on)
		expect(t, a, toK, "the k of Next of", f, k, speed, on)
		expect(t, b, toSpeed, "the speed of Next of", f, k, speed, on)
		f.Mirror = !f.Mirror
	}
}

// stroke is a k and a speed before a tick, and behind it.
type stroke struct{ k, speed, toK, toSpeed int }

// expectStrokes checks those of a flipper that is on or off.
func expectStrokes(t *testing.T, f api.Flipper, on bool, l []stroke) {
	t.Helper()
	for _, o := range l {
		expectNext(t, f, o.k, o.speed, on, o.toK, o.toSpeed)
	}
}

// slow is a flipper from -60 to 40 with Up 4, Down 2 and Max 16.
func slow() api.Flipper {
	f := bat(vec(9, 8), 500)
	f.Low, f.High, f.Max = -60, 40, 16
	return f
}

// P13.1: with on, the speed grows by Up, up to Max.
func TestNextOn(t *testing.T) {
	expectStrokes(t, slow(), true, []stroke{
		{0, 14, 16, 16}, // the chapter's
		{0, 0, 4, 4}, {0, 4, 8, 8}, {8, 8, 20, 12}, {0, 11, 15, 15}, {0, 12, 16, 16}, {0, 13, 16, 16}, {0, 15, 16, 16}, {0, 16, 16, 16}, {0, 17, 16, 16}, {0, 64, 16, 16},
		{0, -1, 3, 3}, {0, -4, 0, 0}, {0, -5, -1, -1}, {0, -16, -12, -12}, {0, -17, -13, -13}, {0, -64, -60, -60}, {-1, -64, -60, 0}, {1, -64, -59, -60}, // Max is no limit downwards
		{24, 16, 40, 16}, {23, 16, 39, 16}, {25, 16, 40, 0}, {36, 0, 40, 4}, {37, 0, 40, 0}, {35, 0, 39, 4}, {40, 0, 40, 0}, {40, -4, 40, 0}, {40, -5, 39, -1}, {40, 64, 40, 0}, {40, -10, 34, -6}, // High exactly reached and passed
		{-60, 0, -56, 4}, {-60, -4, -60, 0}, {-60, -5, -60, 0}, {-59, -5, -60, -1}, {-59, -6, -60, 0}, {-60, -64, -60, 0}, // Low
	})
}

// P13.1: without on, the speed falls by Down, down to -Max.
func TestNextOff(t *testing.T) {
	expectStrokes(t, slow(), false, []stroke{
		{0, 0, -2, -2}, {0, -2, -4, -4}, {0, -13, -15, -15}, {0, -14, -16, -16}, {0, -15, -16, -16}, {0, -16, -16, -16}, {0, -17, -16, -16}, {0, -64, -16, -16}, {0, -12, -14, -14},
		{0, 1, -1, -1}, {0, 2, 0, 0}, {0, 3, 1, 1}, {0, 16, 14, 14}, {0, 17, 15, 15}, {0, 42, 40, 40}, {0, 43, 40, 0}, {-30, 64, 32, 62}, {0, 64, 40, 0}, // Max is no limit upwards
		{-44, -14, -60, -16}, {-44, -16, -60, -16}, {-43, -16, -59, -16}, {-45, -16, -60, 0}, {-58, 0, -60, -2}, {-59, 0, -60, 0}, {-57, 0, -59, -2}, {-60, 0, -60, 0}, {-60, 2, -60, 0}, {-60, 3, -59, 1}, {-60, -64, -60, 0}, // Low exactly reached and passed
		{40, 0, 38, -2}, {40, 2, 40, 0}, {40, 3, 40, 0}, {39, 3, 40, 1}, {39, 4, 40, 0}, {40, 64, 40, 0}, // High
	})
}

// P13.1: the greatest and the least accelerations and speeds.
func TestNextAtItsEnds(t *testing.T) {
	f := bat(vec(0, 0), 500)
	f.Up, f.Down, f.Max = 64, 64, 64
	expectStrokes(t, f, true, []stroke{{0, -64, 0, 0}, {0, -63, 1, 1}, {0, 0, 64, 64}, {0, 1, 64, 64}, {0, 64, 64, 64}, {-256, 64, -192, 64}, {192, 64, 256, 64}, {193, 64, 256, 0}, {256, -64, 256, 0}, {256, 64, 256, 0}, {-256, -64, -256, 0}})
	expectStrokes(t, f, false, []stroke{{0, 64, 0, 0}, {0, 63, -1, -1}, {0, 0, -64, -64}, {0, -1, -64, -64}, {0, -64, -64, -64}, {256, -64, 192, -64}, {-192, -64, -256, -64}, {-193, -64, -256, 0}, {-256, 64, -256, 0}, {-256, -64, -256, 0}, {256, 64, 256, 0}})
	f.Up, f.Down, f.Max = 1, 1, 1
	expectStrokes(t, f, true, []stroke{{0, 0, 1, 1}, {0, 1, 1, 1}, {0, -1, 0, 0}, {0, -2, -1, -1}, {0, -64, -63, -63}, {0, 64, 1, 1}, {255, 0, 256, 1}, {256, 0, 256, 0}, {-256, -2, -256, 0}})
	expectStrokes(t, f, false, []stroke{{0, 0, -1, -1}, {0, -1, -1, -1}, {0, 1, 0, 0}, {0, 2, 1, 1}, {0, 64, 63, 63}, {0, -64, -1, -1}, {-255, 0, -256, -1}, {-256, 0, -256, 0}, {256, 2, 256, 0}})
	f.Up, f.Max = 64, 3 // Up above Max
	expectStrokes(t, f, true, []stroke{{0, 0, 3, 3}, {0, -61, 3, 3}, {0, -62, 2, 2}, {0, -64, 0, 0}})
}

// P13.1: k below Low and above High comes back at once or stays beyond for no tick.
func TestNextFromBeyond(t *testing.T) {
	f := slow()
	expectStrokes(t, f, true, []stroke{{41, 0, 40, 0}, {256, 16, 40, 0}, {44, -8, 40, -4}, {44, -7, 40, 0}, {50, -64, -10, -60}, {-61, 0, -57, 4}, {-64, 0, -60, 4}, {-65, 0, -60, 0}, {-256, 16, -60, 0}, {-256, 0, -60, 0}, {256, -64, 40, 0}})
	expectStrokes(t, f, false, []stroke{{41, 0, 39, -2}, {42, 0, 40, -2}, {43, 0, 40, 0}, {256, 0, 40, 0}, {-61, 0, -60, 0}, {-256, 64, -60, 0}, {-64, 6, -60, 4}, {-64, 5, -60, 0}, {-61, 64, 1, 62}})
}

// P13.1: speeds that are not from -64 to 64.
func TestNextWithOtherSpeeds(t *testing.T) {
	for _, f := range []api.Flipper{slow(), bat(vec(0, 0), 5)} {
		for _, speed := range beyond(swift) {
			for _, k := range []int{0, 5, f.Low, f.High} {
				expectNext(t, f, k, speed, true, 0, 0)
				expectNext(t, f, k, speed, false, 0, 0)
			}
		}
		expectNext(t, f, math.MinInt, math.MinInt, false, 0, 0)
		expectNext(t, f, math.MaxInt, math.MaxInt, true, 0, 0)
	}
}

// P13.1: a flipper that is switched on goes up tick by tick, and rests at High; without its coil it goes down, and rests at Low.
func TestTicksOfFlipper(t *testing.T) {
	f := slow()
	k, speed := f.Low, 0
	for i, want := range [][2]int{{-56, 4}, {-48, 8}, {-36, 12}, {-20, 16}, {-4, 16}, {12, 16}, {28, 16}, {40, 0}, {40, 0}} {
		k, speed = flipper.Next(f, k, speed, true)
		expect(t, [2]int{k, speed}, want, "tick", i, "upwards")
	}
	for i, want := range [][2]int{{38, -2}, {34, -4}, {28, -6}, {20, -8}, {10, -10}, {-2, -12}, {-16, -14}, {-32, -16}, {-48, -16}, {-60, 0}, {-60, 0}} {
		k, speed = flipper.Next(f, k, speed, false)
		expect(t, [2]int{k, speed}, want, "tick", i, "downwards")
	}
}

// P13.1: all speeds and tangents of some flippers: the rule, step by step.
func TestAllStrokes(t *testing.T) {
	for _, o := range [][5]int{{-60, 40, 4, 2, 16}, {-quarter, quarter, 64, 64, 64}, {-3, 5, 1, 7, 2}, {250, quarter, 9, 64, 5}} {
		f := api.Flipper{Length: 500, Low: o[0], High: o[1], Up: o[2], Down: o[3], Max: o[4]}
		for k := -quarter; k <= quarter; k += 3 {
			for speed := -swift; speed <= swift; speed++ {
				rising, falling := speed+f.Up, speed-f.Down
				if rising > f.Max {
					rising = f.Max
				}
				if falling < -f.Max {
					falling = -f.Max
				}
				expectStep(t, f, k, speed, true, rising)
				expectStep(t, f, k, speed, false, falling)
			}
		}
	}
}

// expectStep checks Next, where the new speed is this one if no end is passed.
func expectStep(t *testing.T, f api.Flipper, k, speed int, on bool, then int) {
	t.Helper()
	switch {
	case k+then > f.High:
		expectNext(t, f, k, speed, on, f.High, 0)
	case k+then < f.Low:
		expectNext(t, f, k, speed, on, f.Low, 0)
	default:
		expectNext(t, f, k, speed, on, k+then, then)
	}
}
