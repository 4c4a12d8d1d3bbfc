package flipper_test

import (
	"math"
	"testing"

	"pinball/flipper"
)

// P13.2: written directions, mirrored in X and in Y too.
func TestDirection(t *testing.T) {
	for _, o := range []struct{ k, x, y, n int }{
		{0, 65536, 0, 65536}, {256, 0, 131072, 131072}, {-256, 0, -131072, 131072}, // the first two are the chapter's
		{1, 65535, 512, 65537}, {255, 511, 130560, 130561}, {64, 61440, 32768, 69632}, {128, 49152, 65536, 81920}, {192, 28672, 98304, 102400}, {16, 65280, 8192, 65792}, {-60, 61936, -30720, 69136},
	} {
		for _, c := range changes() {
			f := c.flipper(bat(vec(9, -8), 500))
			d, n := flipper.Direction(f, c.angle(o.k))
			expect(t, d, c.of(vec(o.x, o.y)), "d of", f, o.k)
			expect(t, n, o.n, "n of", f, o.k)
		}
	}
}

// P13.2: the position, length and range of the flipper do not matter.
func TestDirectionOfOtherFlippers(t *testing.T) {
	for k := -quarter; k <= quarter; k++ {
		d, n := flipper.Direction(bat(vec(0, 0), 1), k)
		f := bat(vec(-coord, coord), size)
		f.Low, f.High = 20, 21
		e, m := flipper.Direction(f, k)
		expect(t, e, d, "d of", k)
		expect(t, m, n, "n of", k)
	}
}

// P13.5: |d| is n exactly, and d / n is the direction whose half-angle tangent is k / HalfAngle.
func TestDirectionIsUnit(t *testing.T) {
	for k := -quarter; k <= quarter; k++ {
		for _, c := range changes()[:2] {
			f := c.flipper(bat(vec(5, 6), 700))
			d, n := flipper.Direction(f, k)
			expect(t, d.X*d.X+d.Y*d.Y, n*n, "the square of d of", k)
			expect(t, n >= 65536 && n <= 131072, true, "n is in its range for", k)
			p, q := at(d, n), heading(f, ratio(k, quarter))
			expect(t, p.x.Cmp(q.x) == 0 && p.y.Cmp(q.y) == 0, true, "d / n is exact for", k)
			sin, cos := math.Sincos(2 * math.Atan(float64(k)/quarter))
			toward := c.of(d)
			if math.Abs(float64(toward.X)-cos*float64(n)) > 1e-6 || math.Abs(float64(toward.Y)-sin*float64(n)) > 1e-6 {
				t.Error("Direction of", k, "is", d, n)
			}
		}
	}
}
