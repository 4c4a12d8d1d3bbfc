package vector_test

import (
	"math/big"
	"testing"

	"pinball/api"
	"pinball/vector"
)

// expectTurn checks Turn, also of the mirrored vectors.
func expectTurn(t *testing.T, v, n, want api.Vec, sided bool) {
	t.Helper()
	r, ok := vector.Turn(v, n)
	expect(t, r, want, "Turn of", v, "toward", n)
	m, mok := vector.Turn(mirror(v), mirror(n))
	expect(t, m, mirror(want), "Turn of the mirrored", v, "toward", n)
	if ok != sided || mok != sided {
		t.Error("Turn of", v, "toward", n, "reports", ok, mok)
	}
}

// P6.4: Turn, clockwise and counterclockwise, of all signs, truncated toward 0.
func TestTurn(t *testing.T) {
	for _, c := range []struct{ v, n, want api.Vec }{
		{vec(257, 0), vec(0, 1), vec(255, 32)},
		{vec(257, 0), vec(0, -1), vec(255, -32)},
		{vec(257, 0), vec(-1, 1), vec(255, 32)},
		{vec(257, 0), vec(end, 1), vec(255, 32)}, // beyond the direction of n
		{vec(257, 0), vec(-end, -1), vec(255, -32)},
		{vec(0, 257), vec(9, -8), vec(32, 255)},
		{vec(-257, 514), vec(0, -1), vec(-319, 478)},
		{vec(-257, 514), vec(0, 1), vec(-191, 542)},
		{vec(1, 0), vec(0, 1), vec(0, 0)}, // 255/257, 32/257
		{vec(8, 0), vec(0, 1), vec(7, 0)}, // 2040/257, 256/257
		{vec(9, 0), vec(1, 1), vec(8, 1)}, // 2295/257, 288/257
		{vec(9, 0), vec(1, -1), vec(8, -1)},
		{vec(-9, 0), vec(-1, -1), vec(-8, -1)},
		{vec(0, -9), vec(1, 0), vec(1, -8)},
		{vec(0, -9), vec(-1, -2), vec(-1, -8)},
		{vec(100, -50), vec(1, 0), vec(105, -37)}, // 27100/257, -9550/257
		{vec(100, -50), vec(0, -1), vec(92, -62)}, // 23900/257, -15950/257
		{vec(-100, -50), vec(0, -1), vec(-92, -62)},
		{vec(7, 6), vec(-1, 5), vec(6, 6)}, // 1593/257, 1754/257
		{vec(7, 6), vec(5, -1), vec(7, 5)}, // 1977/257, 1306/257
		{vec(end, 0), vec(0, end), vec(1065385856, 133695480)},
		{vec(end, end), vec(0, 1), vec(931690376, 1199081336)}, // not small
		{vec(end, end), vec(1, 0), vec(1199081336, 931690376)},
	} {
		expectTurn(t, c.v, c.n, c.want, true)
	}
	for _, v := range samples() {
		for _, n := range samples() {
			var want api.Vec
			side := cross(n, v).Sign()
			if side != 0 { // clockwise if it is 1: v as a complex number is multiplied by (255 - side 32 i) / 257
				x := sum(product(255, v.X), product(32*side, v.Y))
				y := sum(product(255, v.Y), product(-32*side, v.X))
				x, y = x.Quo(x, big.NewInt(257)), y.Quo(y, big.NewInt(257))
				want = vec(int(x.Int64()), int(y.Int64()))
			}
			expectTurn(t, v, n, want, side != 0)
		}
	}
}

// P6.4: vectors of one line, and zero vectors, are not turned.
func TestTurnOnOneLine(t *testing.T) {
	for _, v := range samples() {
		for _, n := range []api.Vec{{}, v, vec(-v.X, -v.Y), vector.Reduce(v), vec(v.X/2*2, v.Y/2*2)} {
			if cross(n, v).Sign() == 0 {
				expectTurn(t, v, n, api.Vec{}, false)
			}
		}
		expectTurn(t, api.Vec{}, v, api.Vec{}, false)
	}
}
