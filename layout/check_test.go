package layout_test

import (
	"math"
	"reflect"
	"slices"
	"strconv"
	"strings"
	"testing"

	"pinball/api"
	"pinball/layout"
)

// P9.1: valid tables.
func TestCheck(t *testing.T) {
	expectCheck(t, "the full table", full(), api.OK)
	expectCheck(t, "a table without anything", api.Table{Radius: api.MinRadius}, api.OK)
	expectCheck(t, "a table with empty lists", copied(api.Table{Radius: api.MaxRadius, Balls: api.MaxBalls}), api.OK)
	expectCheck(t, "the zero table", api.Table{}, api.ErrRange)
}

// numbered is an element of the list, valid and apart from those with other numbers.
func numbered(list string, n int) any {
	name, c := strings.ToLower(list[:3])+strconv.Itoa(n), vec(1000*n, -500)
	switch list {
	case "Walls":
		return api.Wall{Name: name, Kind: api.WallPlain, A: c, Coil: -1, Switch: -1}
	case "Arcs":
		return api.Arc{Name: name, S: vec(300, 0), E: vec(0, 300), Switch: -1}
	case "Posts":
		return api.Post{Name: name, C: c, Coil: -1, Switch: -1}
	case "Flippers":
		return api.Flipper{Name: name, P: c, Length: 1, High: 1, Up: 1, Down: 1, Max: 1, Coil: -1, Switch: -1}
	case "Zones":
		return api.Zone{Name: name, Lo: c, Hi: vec(1000*n+1, 0), Coil: -1}
	case "Saucers":
		return api.Saucer{Name: name, C: c, Size: 1, Coil: -1, Switch: -1}
	case "Lanes":
		return api.Lane{Name: name, C: c, Size: 1, Switch: -1}
	case "Ramps":
		return api.Ramp{Name: name, C: c, To: 1, Size: 1, Dir: vec(0, 1)}
	case "Drains":
		return api.Drain{Name: name, C: c, Size: 1}
	case "Launchers":
		return api.Launcher{Name: name, At: c}
	}
	panic("the test's list " + list)
}

// most are the limits of the lists.
var most = map[string]int{
	"Walls": api.MaxWalls, "Arcs": api.MaxArcs, "Posts": api.MaxPosts, "Flippers": api.MaxFlippers, "Zones": api.MaxZones,
	"Saucers": api.MaxSaucers, "Lanes": api.MaxLanes, "Ramps": api.MaxRamps, "Drains": api.MaxDrains, "Launchers": api.MaxLaunchers,
}

// crowd is a table with n elements in one list.
func crowd(list string, n int) api.Table {
	t := plain()
	for i := range n {
		put(&t, numbered(list, i))
	}
	return t
}

// P9.1: each list at its limit and one longer, and all of them at their limits.
func TestCheckLimits(t *testing.T) {
	all := plain()
	for _, i := range lists()[1:] {
		name := reflect.TypeOf(all).Field(i).Name
		expectCheck(t, "as many as permitted of "+name, crowd(name, most[name]), api.OK)
		expectCheck(t, "one too many of "+name, crowd(name, most[name]+1), api.ErrLimit)
		expectCheck(t, "very many of "+name, crowd(name, 1000), api.ErrLimit)
		for n := range most[name] {
			put(&all, numbered(name, n))
		}
	}
	expectCheck(t, "all lists at their limits", all, api.OK)
	for _, i := range lists()[1:] {
		name := reflect.TypeOf(all).Field(i).Name
		x := copied(all)
		put(&x, numbered(name, most[name]))
		expectCheck(t, "one too many of "+name, x, api.ErrLimit)
	}
}

// P9.1: Balls and Trough at their limits.
func TestCheckBalls(t *testing.T) {
	for _, n := range []int{-1, api.MaxBalls + 1, 100, math.MinInt, math.MaxInt} {
		expectCheck(t, strconv.Itoa(n)+" balls", api.Table{Radius: 100, Balls: n}, api.ErrLimit)
	}
	for balls := range api.MaxBalls + 1 {
		for n := range api.MaxBalls + 3 {
			want := api.OK
			if n > balls {
				want = api.ErrLimit
			}
			expectCheck(t, strconv.Itoa(balls)+" balls with a trough of "+strconv.Itoa(n), api.Table{Radius: 100, Balls: balls, Trough: make([]int, n)}, want)
		}
	}
	expectCheck(t, "no balls with a long trough", api.Table{Radius: 100, Trough: make([]int, 100000)}, api.ErrLimit)
}

// ranges are the ranges of all numbers; those of Low and High are for the other one in the full table.
var ranges = map[string][2]int{
	"Radius": {64, 32768}, "Rest": {0, 15}, "Gravity.X": {-256, 256}, "Gravity.Y": {-256, 256}, "Drag": {0, 1000}, "Shift": {0, 14}, "Trough": {-1, 63},
	"Walls.Kind": {1, 4}, "Walls.Level": {0, 3}, "Walls.A.X": {-1 << 20, 1 << 20}, "Walls.A.Y": {-1 << 20, 1 << 20}, "Walls.B.X": {-1 << 20, 1 << 20}, "Walls.B.Y": {-1 << 20, 1 << 20},
	"Walls.Rest": {0, 15}, "Walls.Grip": {0, 15}, "Walls.Kick": {0, 16384}, "Walls.Min": {0, 16384}, "Walls.Coil": {-1, 31}, "Walls.Switch": {-1, 63},
	"Arcs.Level": {0, 3}, "Arcs.C.X": {-1 << 20, 1 << 20}, "Arcs.C.Y": {-1 << 20, 1 << 20}, "Arcs.S.X": {-1 << 20, 1 << 20}, "Arcs.S.Y": {-1 << 20, 1 << 20}, "Arcs.E.X": {-1 << 20, 1 << 20}, "Arcs.E.Y": {-1 << 20, 1 << 20},
	"Arcs.Rest": {0, 15}, "Arcs.Grip": {0, 15}, "Arcs.Min": {0, 16384}, "Arcs.Switch": {-1, 63},
	"Posts.Level": {0, 3}, "Posts.C.X": {-1 << 20, 1 << 20}, "Posts.C.Y": {-1 << 20, 1 << 20}, "Posts.Size": {0, 1 << 18}, "Posts.Rest": {0, 15}, "Posts.Grip": {0, 15},
	"Posts.Kick": {0, 16384}, "Posts.Min": {0, 16384}, "Posts.Coil": {-1, 31}, "Posts.Switch": {-1, 63},
	"Flippers.Level": {0, 3}, "Flippers.P.X": {-1 << 20, 1 << 20}, "Flippers.P.Y": {-1 << 20, 1 << 20}, "Flippers.Length": {1, 1 << 18}, "Flippers.Low": {-256, 99}, "Flippers.High": {-199, 256},
	"Flippers.Up": {1, 64}, "Flippers.Down": {1, 64}, "Flippers.Max": {1, 64}, "Flippers.Rest": {0, 15}, "Flippers.Grip": {0, 15}, "Flippers.Coil": {-1, 31}, "Flippers.Switch": {-1, 63},
	"Zones.Level": {0, 3}, "Zones.Lo.X": {-1 << 20, 1 << 20}, "Zones.Lo.Y": {-1 << 20, 1 << 20}, "Zones.Hi.X": {-1 << 20, 1 << 20}, "Zones.Hi.Y": {-1 << 20, 1 << 20},
	"Zones.Half.X": {-256, 256}, "Zones.Half.Y": {-256, 256}, "Zones.Coil": {-1, 31},
	"Saucers.Level": {0, 3}, "Saucers.C.X": {-1 << 20, 1 << 20}, "Saucers.C.Y": {-1 << 20, 1 << 20}, "Saucers.Size": {1, 1 << 18}, "Saucers.Limit": {0, 1 << 20},
	"Saucers.Out.X": {-16384, 16384}, "Saucers.Out.Y": {-16384, 16384}, "Saucers.Coil": {-1, 31}, "Saucers.Switch": {-1, 63},
	"Lanes.Level": {0, 3}, "Lanes.C.X": {-1 << 20, 1 << 20}, "Lanes.C.Y": {-1 << 20, 1 << 20}, "Lanes.Size": {1, 1 << 18}, "Lanes.Switch": {-1, 63},
	"Ramps.From": {0, 3}, "Ramps.To": {0, 3}, "Ramps.C.X": {-1 << 20, 1 << 20}, "Ramps.C.Y": {-1 << 20, 1 << 20}, "Ramps.Size": {1, 1 << 18}, "Ramps.Dir.X": {-16384, 16384}, "Ramps.Dir.Y": {-16384, 16384},
	"Drains.Level": {0, 3}, "Drains.C.X": {-1 << 20, 1 << 20}, "Drains.C.Y": {-1 << 20, 1 << 20}, "Drains.Size": {1, 1 << 18},
	"Launchers.Level": {0, 3}, "Launchers.At.X": {-1 << 20, 1 << 20}, "Launchers.At.Y": {-1 << 20, 1 << 20}, "Launchers.V.X": {-16384, 16384}, "Launchers.V.Y": {-16384, 16384}, "Launchers.Coil": {0, 31},
}

// shaping are the numbers for which more is required than that they are in their ranges.
var shaping = []string{"Radius", "Arcs.C.X", "Arcs.C.Y", "Arcs.S.X", "Arcs.S.Y", "Arcs.E.X", "Arcs.E.Y", "Zones.Lo.X", "Zones.Lo.Y", "Zones.Hi.X", "Zones.Hi.Y", "Saucers.Size", "Saucers.Level", "Ramps.From", "Ramps.To", "Launchers.Level"}

// withLeaf is the full table with another number at one of its leaves.
func withLeaf(i, n int) api.Table {
	return changed(func(x *api.Table) { leaves(x)[i].v.SetInt(int64(n)) })
}

// P9.1: each number of the table and of each kind of element, at both ends of its range and beyond them.
func TestCheckRanges(t *testing.T) {
	seen := map[string]bool{}
	x := full()
	for i, f := range leaves(&x) {
		if f.v.Kind() != reflect.Int || f.path == "Balls" {
			continue
		}
		r, ok := ranges[f.path]
		if !ok {
			t.Fatal("the test's ranges have no", f.path)
		}
		seen[f.path] = true
		for _, n := range []int{r[0], r[1]} {
			what := f.path + " = " + strconv.Itoa(n)
			if !slices.Contains(shaping, f.path) {
				expectCheck(t, what, withLeaf(i, n), api.OK)
			} else if e := layout.Check(withLeaf(i, n)); e != api.OK && e != api.ErrShape && e != api.ErrOverlap {
				t.Error(what, "is refused with", e)
			}
		}
		for _, n := range []int{r[0] - 1, r[1] + 1, math.MinInt, math.MinInt + 1, math.MaxInt, -1 << 32, 1 << 32} {
			expectCheck(t, f.path+" = "+strconv.Itoa(n), withLeaf(i, n), api.ErrRange)
		}
	}
	if len(seen) != len(ranges) {
		t.Error("not all numbers of the test's ranges are in the full table", len(seen))
	}
}

// P9.1: those numbers at the ends of their ranges that fit to their neighbours only.
func TestCheckEnds(t *testing.T) {
	const c = api.MaxCoord
	expectCheck(t, "elements in the corners", plain(
		api.Arc{Name: "a", C: vec(-c+500, c-500), S: vec(-c, c-500), E: vec(-c+500, c-1000)}, api.Arc{Name: "b", C: vec(c, c), S: vec(c-300, c), E: vec(c, c-300)},
		api.Arc{Name: "c", C: vec(-c, -c), S: vec(-c+300, -c), E: vec(-c, -c+300)}, api.Arc{Name: "d", C: vec(0, c-300), S: vec(300, c-300), E: vec(0, c)},
		api.Zone{Name: "z", Lo: vec(-c, -c), Hi: vec(c, c)}, api.Zone{Name: "y", Lo: vec(c-1, c-1), Hi: vec(c, c)}, api.Zone{Name: "x", Lo: vec(-c, -c), Hi: vec(1-c, 1-c)},
		api.Saucer{Name: "s", C: vec(c, -c), Size: 99}, api.Saucer{Name: "r", C: vec(-c, c), Size: 99},
		api.Ramp{Name: "q", C: vec(c, c), Size: 1 << 18, From: 3, Dir: vec(1, 0)}, api.Ramp{Name: "p", C: vec(-c, -c), Size: 1 << 18, From: 3, To: 2, Dir: vec(0, -1)},
		api.Launcher{Name: "l", At: vec(c, c)}, api.Launcher{Name: "k", At: vec(-c, -c)},
	), api.OK)
	expectCheck(t, "the greatest balls", api.Table{Radius: api.MaxRadius, Saucers: []api.Saucer{{Name: "s", Size: api.MaxRadius - 1}}, Arcs: []api.Arc{{Name: "a", S: vec(1<<16+1, 0), E: vec(0, 1<<16+1)}}}, api.OK)
	expectCheck(t, "a half turn of a flipper", plain(api.Flipper{Name: "f", Length: 1, Low: -256, High: 256, Up: 1, Down: 1, Max: 1}), api.OK)
}

// P9.1: Low and High of a flipper, and its greatest speed times its length.
func TestCheckFlippers(t *testing.T) {
	f := api.Flipper{Name: "f", Length: 10, Up: 1, Down: 1, Max: 1}
	for low := -258; low <= 258; low += 3 {
		for high := -258; high <= 258; high++ {
			want := api.OK
			if low < -256 || high > 256 || low >= high {
				want = api.ErrRange
			}
			f.Low, f.High = low, high
			expectCheck(t, "a range "+strconv.Itoa(low)+" "+strconv.Itoa(high), plain(f), want)
		}
	}
	f.Low, f.High = -1, 1
	for m := 1; m <= 64; m++ {
		f.Max = m
		f.Length = min(1<<21/m, 1<<18)
		expectCheck(t, "a speed of "+strconv.Itoa(m), plain(f), api.OK)
		f.Length++
		expectCheck(t, "a speed that is too great: "+strconv.Itoa(m), plain(f), api.ErrRange)
	}
	f.Max, f.Length = 64, 1<<15
	expectCheck(t, "exactly 2^21", plain(f), api.OK)
	f.Max, f.Length = 1<<32, 1<<32
	expectCheck(t, "a product that is no int", plain(f), api.ErrRange)
}

// P9.1: names of elements of each list.
func TestCheckNames(t *testing.T) {
	x := full()
	for i, f := range leaves(&x) {
		if f.v.Kind() != reflect.String {
			continue
		}
		for _, s := range []string{"", " ", "A", "1", "a b", "aB", "-a", "a-", "a\n", "a;", "é", "aé", "\x00", "a\x00", "\xff", longest + "3", strings.Repeat("a", 100000)} {
			expectCheck(t, f.path+" = "+short(s), changed(func(x *api.Table) { leaves(x)[i].v.SetString(s) }), api.ErrName)
		}
		for _, s := range []string{"a", "z9", "table", "wall", "mirror", strings.Repeat("z", 12)} {
			expectCheck(t, f.path+" = "+s, changed(func(x *api.Table) { leaves(x)[i].v.SetString(s) }), api.OK)
		}
		for j, g := range leaves(&x) {
			if g.v.Kind() == reflect.String && j != i {
				expectCheck(t, f.path+" = "+g.path, changed(func(x *api.Table) { leaves(x)[i].v.SetString(g.v.String()) }), api.ErrDuplicate)
			}
		}
	}
}

// P9.1: walls of no length, zones without width or height, ramps to their own level and without a direction, saucers as large as the ball.
func TestCheckShapes(t *testing.T) {
	for _, c := range []struct {
		what string
		x    any
		want api.Errno
	}{
		{"a wall of no length", api.Wall{Name: "w", Kind: 1}, api.ErrShape},
		{"a gate of no length", api.Wall{Name: "w", Kind: 2, A: vec(5, -6), B: vec(5, -6)}, api.ErrShape},
		{"a short wall along X", api.Wall{Name: "w", Kind: 3, A: vec(5, -6), B: vec(6, -6)}, api.OK},
		{"a short wall along Y", api.Wall{Name: "w", Kind: 4, A: vec(5, -6), B: vec(5, -7)}, api.OK},
		{"a zone without anything", api.Zone{Name: "z"}, api.ErrShape},
		{"a zone without width", api.Zone{Name: "z", Hi: vec(0, 5)}, api.ErrShape},
		{"a zone without height", api.Zone{Name: "z", Hi: vec(5, 0)}, api.ErrShape},
		{"a zone with negative width", api.Zone{Name: "z", Hi: vec(-1, 5)}, api.ErrShape},
		{"a zone with negative height", api.Zone{Name: "z", Hi: vec(5, -1)}, api.ErrShape},
		{"a zone of one dot", api.Zone{Name: "z", Lo: vec(-1, -1)}, api.OK},
		{"a saucer as large as a ball", api.Saucer{Name: "s", Size: 100}, api.ErrShape},
		{"a larger saucer", api.Saucer{Name: "s", Size: 101}, api.ErrShape},
		{"a smaller saucer", api.Saucer{Name: "s", Size: 99}, api.OK},
		{"a ramp without a direction", api.Ramp{Name: "r", To: 1, Size: 1}, api.ErrShape},
		{"a ramp to its own level", api.Ramp{Name: "r", Size: 1, Dir: vec(1, 1)}, api.ErrShape},
		{"a ramp of level 3 to level 3", api.Ramp{Name: "r", From: 3, To: 3, Size: 1, Dir: vec(1, 1)}, api.ErrShape},
		{"a ramp to the right", api.Ramp{Name: "r", From: 3, Size: 1, Dir: vec(1, 0)}, api.OK},
		{"a ramp down", api.Ramp{Name: "r", To: 3, Size: 1, Dir: vec(0, -1)}, api.OK},
	} {
		expectCheck(t, c.what, plain(c.x), c.want)
	}
}

// P9.1: the shapes of arcs. The radius of the balls is 100.
func TestCheckArcs(t *testing.T) {
	const m = api.MaxSize
	for _, c := range []struct {
		what string
		s, e api.Vec
		want api.Errno
	}{
		{"at exactly twice the radius", vec(200, 0), vec(0, 200), api.ErrShape},
		{"one more", vec(201, 0), vec(0, 201), api.OK},
		{"one less", vec(199, 0), vec(0, 199), api.ErrShape},
		{"askew at exactly twice the radius", vec(120, 160), vec(-120, 160), api.ErrShape},
		{"askew at five more", vec(123, 164), vec(-123, 164), api.OK},
		{"at the greatest size", vec(m, 0), vec(0, m), api.OK},
		{"one more than that", vec(m+1, 0), vec(0, m+1), api.ErrShape},
		{"askew, just too large", vec(157287, 209716), vec(-157287, 209716), api.ErrShape},
		{"much more than that", vec(1<<20, 0), vec(0, 1<<20), api.ErrShape},
		{"at different whole distances", vec(300, 0), vec(0, 301), api.ErrShape},
		{"the other way round", vec(301, 0), vec(0, 300), api.ErrShape},
		{"at one distance that is not whole", vec(300, 1), vec(-1, 300), api.ErrShape},
		{"only S at a whole distance", vec(300, 0), vec(1, 300), api.ErrShape},
		{"only E at a whole distance", vec(300, 1), vec(0, 300), api.ErrShape},
		{"no whole distance by one", vec(300, 400), vec(-401, 300), api.ErrShape},
		{"half a turn", vec(300, 0), vec(-300, 0), api.ErrShape},
		{"half a turn askew", vec(300, -400), vec(-300, 400), api.ErrShape},
		{"no turn", vec(300, 400), vec(300, 400), api.ErrShape},
		{"clockwise", vec(0, 300), vec(300, 0), api.ErrShape},
		{"more than half a turn", vec(300, 0), vec(-180, -240), api.ErrShape},
		{"nearly half a turn", vec(1105*2, 0), vec(-1104*2, 47*2), api.OK},
		{"a quarter", vec(0, -300), vec(300, 0), api.OK},
		{"across the X axis", vec(400, -300), vec(400, 300), api.OK},
		{"no size", vec(0, 0), vec(0, 0), api.ErrShape},
	} {
		for _, at := range []api.Vec{vec(0, 0), vec(7, -9), vec(-12345, 678)} {
			a := api.Arc{Name: "a", C: at, S: vec(at.X+c.s.X, at.Y+c.s.Y), E: vec(at.X+c.e.X, at.Y+c.e.Y)}
			if max(a.S.X, a.S.Y, a.E.X, a.E.Y) <= api.MaxCoord {
				expectCheck(t, "an arc "+c.what, plain(a), c.want)
			}
		}
	}
}

// P9.1: saucers, ramps and launchers that touch and overlap, on one level and on two.
func TestCheckOverlaps(t *testing.T) {
	saucer := func(name string, level int, c api.Vec, size int) any {
		return api.Saucer{Name: name, Level: level, C: c, Size: size}
	}
	ramp := func(name string, level int, c api.Vec, size int) any {
		return api.Ramp{Name: name, From: level, To: (level + 1) % 3, C: c, Size: size, Dir: vec(1, 0)}
	}
	launcher := func(name string, level int, c api.Vec, _ int) any {
		return api.Launcher{Name: name, Level: level, At: c}
	}
	for _, k := range []struct {
		what string
		make func(string, int, api.Vec, int) any
		a, b int // sizes
	}{{"saucers", saucer, 20, 30}, {"saucers of one size", saucer, 99, 99}, {"ramps", ramp, 1000, 250}, {"small ramps", ramp, 1, 1}, {"great ramps", ramp, 1 << 18, 1 << 18}, {"launchers", launcher, 100, 100}} {
		d := k.a + k.b
		for _, c := range []struct {
			at   api.Vec
			want api.Errno
		}{
			{vec(d, 0), api.OK}, {vec(-d, 0), api.OK}, {vec(0, d), api.OK}, {vec(0, -d), api.OK}, {vec(d, d), api.OK}, {vec(d+1, -1), api.OK}, {vec(1, -d), api.OK},
			{vec(d-1, 0), api.ErrOverlap}, {vec(1-d, 0), api.ErrOverlap}, {vec(0, d-1), api.ErrOverlap}, {vec(0, 1-d), api.ErrOverlap}, {vec(0, 0), api.ErrOverlap},
		} {
			for _, at := range []api.Vec{vec(0, 0), vec(300, -700)} {
				b := vec(at.X+c.at.X, at.Y+c.at.Y)
				expectCheck(t, k.what, plain(k.make("a", 2, at, k.a), k.make("b", 2, b, k.b)), c.want)
				expectCheck(t, k.what+" on two levels", plain(k.make("a", 1, at, k.a), k.make("b", 2, b, k.b)), api.OK)
				expectCheck(t, k.what+", the first and the last", plain(k.make("a", 1, at, k.a), k.make("m", 1, vec(-1<<20, 1<<20), k.a), k.make("n", 2, at, k.a), k.make("b", 1, b, k.b)), c.want)
			}
		}
	}
	expectCheck(t, "askew saucers that touch", plain(saucer("a", 0, vec(0, 0), 20), saucer("b", 0, vec(30, 40), 30)), api.OK)
	expectCheck(t, "askew saucers that overlap", plain(saucer("a", 0, vec(0, 0), 20), saucer("b", 0, vec(30, 39), 30)), api.ErrOverlap)
	expectCheck(t, "askew launchers that touch", plain(launcher("a", 0, vec(0, 0), 0), launcher("b", 0, vec(120, 160), 0)), api.OK)
	expectCheck(t, "askew launchers that overlap", plain(launcher("a", 0, vec(0, 0), 0), launcher("b", 0, vec(119, 160), 0)), api.ErrOverlap)
	expectCheck(t, "different things at one place", plain(saucer("a", 0, vec(0, 0), 20), ramp("b", 0, vec(0, 0), 30), launcher("c", 0, vec(0, 0), 0)), api.OK)
	expectCheck(t, "ramps to one level", plain(api.Ramp{Name: "a", To: 2, Size: 9, Dir: vec(1, 0)}, api.Ramp{Name: "b", From: 1, To: 2, Size: 9, Dir: vec(1, 0)}), api.OK)
	expectCheck(t, "ramps to two levels", plain(api.Ramp{Name: "a", To: 2, Size: 9, Dir: vec(1, 0)}, api.Ramp{Name: "b", To: 1, Size: 9, Dir: vec(1, 0)}), api.ErrOverlap)
	expectCheck(t, "lanes and drains at one place", plain(api.Lane{Name: "a", Size: 9}, api.Lane{Name: "b", Size: 9}, api.Drain{Name: "c", Size: 9}, api.Drain{Name: "d", Size: 9}), api.OK)
}
