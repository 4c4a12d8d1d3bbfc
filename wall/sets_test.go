package wall_test

import (
	"math"
	"math/rand/v2"
	"testing"

	"pinball/api"
	"pinball/wall"
)

// expectIn checks InCapsule for s and its reverse, and InDisc too if s is a point.
func expectIn(t *testing.T, p api.Vec, s segment, reach int, want bool) {
	t.Helper()
	expect(t, wall.InCapsule(p, s.a, s.b, reach), want, "InCapsule of", p, s.a, s.b, reach)
	expect(t, wall.InCapsule(p, s.b, s.a, reach), want, "InCapsule of", p, s.b, s.a, reach)
	if s.a == s.b {
		expect(t, wall.InDisc(p, s.a, reach), want, "InDisc of", p, s.a, reach)
	}
}

// spot is a position, a reach, and whether the position is nearer to a certain segment than that.
type spot struct {
	x, y, reach int
	in          bool
}

// expectSpots checks those of a segment, mirrored and turned by right angles too.
func expectSpots(t *testing.T, s segment, l []spot) {
	t.Helper()
	for _, o := range l {
		p := vec(o.x, o.y)
		for k := range 4 {
			expectIn(t, turned(p, k), segment{turned(s.a, k), turned(s.b, k)}, o.reach, o.in)
			expectIn(t, turned(mirrored(p), k), segment{turned(mirrored(s.a), k), turned(mirrored(s.b), k)}, o.reach, o.in)
		}
	}
}

// P11.1: just within, exactly at and just beyond the reach of a point.
func TestInDisc(t *testing.T) {
	expectSpots(t, segment{vec(100, -20), vec(100, -20)}, []spot{
		{100, -20, 1, true}, {101, -20, 1, false}, {99, -21, 1, false}, {101, -20, 2, true}, {101, -21, 2, true}, {102, -20, 2, false}, {101, -22, 2, false},
		{109, -20, 10, true}, {110, -20, 10, false}, {111, -20, 10, false}, {100, -11, 10, true}, {100, -10, 10, false}, {100, -9, 10, false},
		{105, -12, 10, true}, {106, -12, 10, false}, {107, -12, 10, false}, {106, -13, 10, true}, {94, -28, 10, false}, {93, -27, 10, true},
		{100, -20, far, true}, {100 + far, -20, far, false}, {99 + far, -20, far, true}, {100, -20 - far, far, false}, {100, -20 + far - 1, far, true}, {99 + far, 1003, far, true}, {99 + far, 1004, far, false},
		{100 + far, -20, far - 1, false}, {0, 0, 101, false}, {0, 0, 102, true},
	})
}

// P11.1: in front of both ends, beside the segment and on its line, along an axis.
func TestInCapsule(t *testing.T) {
	expectSpots(t, segment{vec(0, 0), vec(100, 0)}, []spot{
		{50, 9, 10, true}, {50, 10, 10, false}, {50, 11, 10, false}, {50, -9, 10, true}, {50, -10, 10, false}, {-6, 8, 10, false}, {-5, 8, 10, true}, {-6, 7, 10, true}, {-7, 8, 10, false}, // those of the chapter and their neighbours
		{50, 0, 1, true}, {50, 1, 1, false}, {50, 1, 2, true}, {0, 0, 1, true}, {100, 0, 1, true}, {-1, 0, 1, false}, {101, 0, 1, false}, {-1, 0, 2, true}, {101, 0, 2, true}, // on its line
		{-9, 0, 10, true}, {-10, 0, 10, false}, {109, 0, 10, true}, {110, 0, 10, false}, {60, 0, 10, true}, {-500, 0, 10, false}, {500, 0, 10, false},
		{0, 9, 10, true}, {0, 10, 10, false}, {100, -9, 10, true}, {100, -10, 10, false}, {1, 10, 10, false}, {1, 9, 10, true}, {99, 10, 10, false}, // beside the ends
		{106, 8, 10, false}, {105, 8, 10, true}, {106, -7, 10, true}, {107, -7, 10, true}, {108, -6, 10, false}, {108, -5, 10, true},
	})
}

// P11.1: a slanted segment with a direction of the length 5, and one with that of the length sqrt(5).
func TestInSlantedCapsule(t *testing.T) {
	expectSpots(t, segment{vec(10, 20), vec(40, 60)}, []spot{ // in steps of (3, 4)
		{13, 24, 1, true}, {9, 27, 5, false}, {9, 27, 6, true}, {17, 21, 5, false}, {17, 21, 6, true}, {17, 22, 5, true}, // beside it: (3, 4) or (6, 8), and (-4, 3) or (4, -3)
		{6, 23, 5, false}, {6, 23, 6, true}, {7, 23, 5, true}, {36, 63, 5, false}, {37, 63, 5, true}, {44, 57, 5, false}, {43, 57, 5, true}, // beside the ends
		{7, 16, 5, false}, {7, 16, 6, true}, {8, 16, 5, true}, {43, 64, 5, false}, {43, 63, 5, true}, {43, 64, 6, true}, // on its line
		{5, 20, 5, false}, {5, 20, 6, true}, {45, 60, 5, false}, {45, 60, 6, true}, {40, 65, 5, false}, {40, 64, 5, true}, {10, 15, 5, false}, {10, 16, 5, true}, // in front of the ends
	})
	expectSpots(t, segment{vec(-100, -50), vec(200, 100)}, []spot{
		{1, 0, 1, true}, {0, 1, 1, true}, {1, -1, 1, false}, {1, -1, 2, true}, // at 1 / sqrt(5), 2 / sqrt(5) and 3 / sqrt(5)
		{-1, 2, 2, false}, {-1, 2, 3, true}, {-2, 4, 4, false}, {-2, 4, 5, true}, {-400, 800, 894, false}, {-400, 800, 895, true}, {-4, 7, 8, false}, {-3, 7, 8, true}, {-4, 7, 9, true}, // 2000, 18 and 17 times 1 / sqrt(5): 894.4, 8.05, 7.60
	})
}

// P11.1: at the ends of the ranges of points and reaches.
func TestInGreatSets(t *testing.T) {
	end := segment{vec(coord, -coord), vec(coord, -coord)}
	expectSpots(t, end, []spot{
		{coord, -coord, 1, true}, {coord + far - 1, -coord, far, true}, {coord + far, -coord, far, false}, {coord, 1 - coord - far, far, true}, {coord, -coord - far, far, false},
		{field, -field, far, false}, {field, -coord, far, false}, {coord, -field, far, false}, {-field, field, far, false},
	})
	diagonal := segment{vec(-coord, -coord), vec(coord, coord)}
	expectSpots(t, diagonal, []spot{
		{0, 0, 1, true}, {0, 1, 1, true}, {0, 2, 1, false}, {1, -1, 1, false}, {1, -1, 2, true}, {coord, coord, 1, true}, {-coord, 1 - coord, 1, true}, {coord, coord + 1, 1, false},
		{0, 741455, far, true}, {0, 741456, far, false}, // 2^19 sqrt(2) = 741455.2
		{500000, -241455, far, true}, {500000, -241456, far, false}, {coord, coord + far - 1, far, true}, {coord, coord + far, far, false}, {field, field, far, false}, {-field, field, far, false},
	})
	expectSpots(t, segment{vec(-coord, coord), vec(coord, coord-1)}, []spot{ // nearly along the axis
		{0, coord - 1, 1, true}, {0, coord, 1, true}, {-1, coord - 1, 1, true}, {0, coord + 1, 1, false}, {0, coord - 2, 1, false}, {1, coord - 2, 2, true}, {-coord, coord, 1, true},
		{1, coord + far - 1, far, true}, {-1, coord + far - 1, far, true}, {-1, coord + far, far, false}, {1, coord - far, far, true}, {-1, coord - far, far, true}, {1, coord - far - 1, far, false}, {0, field, far, false},
	})
}

// reachesOut are reaches that are not permitted or whose sets are empty.
func reachesOut() []int {
	return append([]int{0, -1, -2, -far, 1 - far}, beyond(far)...)
}

// P11.1: reaches below 1 give the empty set, and those above 2^19 are not permitted.
func TestInWithOtherReaches(t *testing.T) {
	for _, reach := range reachesOut() {
		for _, p := range []api.Vec{{}, {X: 5}, {X: -1, Y: 1}, {X: field, Y: field}} {
			for _, s := range []segment{{}, {vec(0, 0), vec(10, 0)}, {vec(-10, -20), vec(10, 20)}, {vec(5, 0), vec(5, 0)}} {
				expectIn(t, p, s, reach, false)
			}
		}
	}
}

// P11.1: positions of points and of balls beyond their ranges.
func TestInWithOtherPositions(t *testing.T) {
	for _, p := range out(coord) {
		for _, q := range []api.Vec{p, {}, {X: max(-field, min(p.X, field)), Y: max(-field, min(p.Y, field))}} {
			for _, reach := range []int{1, 50, far} {
				expectIn(t, q, segment{p, p}, reach, false)
				expectIn(t, q, segment{p, vec(0, 0)}, reach, false)
				expectIn(t, q, segment{p, vec(-p.X, -p.Y)}, reach, false)
			}
		}
	}
	for _, p := range out(field) {
		for _, s := range []segment{{}, {vec(0, 0), vec(10, 0)}, {vec(-10, -20), vec(10, 20)}, {vec(-coord, -coord), vec(coord, coord)}, {vec(coord, coord), vec(coord, coord)}} {
			for _, reach := range []int{1, far} {
				expectIn(t, p, s, reach, false)
			}
		}
	}
	for _, n := range []int{math.MinInt, math.MaxInt} {
		expectIn(t, vec(n, n), segment{vec(n, n), vec(n, n)}, n, false)
	}
}

// P11.1: all positions around short segments, compared with distances in rational numbers.
func TestInAround(t *testing.T) {
	for _, b := range []api.Vec{{}, {X: 4}, {Y: -5}, {X: 3, Y: 4}, {X: -2, Y: 6}, {X: 5, Y: -1}} {
		s := segment{vec(1, -2), vec(1+b.X, b.Y-2)}
		for x := -13; x <= 15; x++ {
			for y := -15; y <= 13; y++ {
				for _, reach := range []int{1, 2, 5, 7} {
					expectIn(t, vec(x, y), s, reach, s.includes(whole(x), whole(y), reach))
				}
			}
		}
	}
}

// P11.1: random segments and positions, compared with distances in rational numbers.
func TestInOfRandomSets(t *testing.T) {
	r := rand.New(rand.NewPCG(1, 11))
	for range 4000 {
		for _, n := range sizes() {
			s := randomSegment(r, n.coord)
			reach := 1 + r.IntN(n.reach)
			p := s.near(r, reach)
			if r.IntN(8) == 0 {
				p = position(r, field)
			}
			expectIn(t, p, s, reach, s.includes(whole(p.X), whole(p.Y), reach))
		}
	}
}
