package layout_test

import (
	"math"
	"reflect"
	"slices"
	"strings"
	"testing"

	"pinball/api"
	"pinball/layout"
)

// positions, and velocities, directions and accelerations, of a table.
var (
	positions  = []string{"Walls.A", "Walls.B", "Arcs.C", "Arcs.S", "Arcs.E", "Posts.C", "Flippers.P", "Zones.Lo", "Zones.Hi", "Saucers.C", "Lanes.C", "Ramps.C", "Drains.C", "Launchers.At"}
	directions = []string{"Gravity", "Zones.Half", "Saucers.Out", "Ramps.Dir", "Launchers.V"}
)

// component is the vector that a leaf belongs to, and whether it is X; "" if it belongs to none.
func component(f leaf) (string, bool) {
	if v, ok := strings.CutSuffix(f.path, ".X"); ok {
		return v, true
	}
	if v, ok := strings.CutSuffix(f.path, ".Y"); ok {
		return v, false
	}
	return "", false
}

// The test's vectors are all vectors of a table.
func TestVectors(t *testing.T) {
	seen := map[string]bool{}
	x := full()
	for _, f := range leaves(&x) {
		if v, _ := component(f); v != "" {
			seen[v] = true
			if slices.Contains(positions, v) == slices.Contains(directions, v) {
				t.Error("the test's vectors:", v)
			}
		}
	}
	if len(seen) != len(positions)+len(directions) {
		t.Error("the test's vectors:", seen)
	}
}

// moved is x with a vector added to its positions.
func moved(x api.Table, by api.Vec) api.Table {
	x = copied(x)
	for _, f := range leaves(&x) {
		if v, first := component(f); slices.Contains(positions, v) && first {
			f.v.SetInt(f.v.Int() + int64(by.X))
		} else if slices.Contains(positions, v) {
			f.v.SetInt(f.v.Int() + int64(by.Y))
		}
	}
	return x
}

// expectShift checks Shift of a table, and that shifting it back gives it again.
func expectShift(t *testing.T, x api.Table, by api.Vec, want api.Table) {
	t.Helper()
	got := layout.Shift(x, by)
	if !equal(got, want) {
		t.Errorf("Shift by %v is %+v instead of %+v", by, got, want)
	}
	if back := layout.Shift(got, vec(-by.X, -by.Y)); !equal(back, x) {
		t.Errorf("Shift by %v and back is %+v instead of %+v", by, back, x)
	}
}

// P9.4: Shift by 0, by negative and positive vectors, within what is valid and beyond it.
func TestShift(t *testing.T) {
	for _, by := range []api.Vec{{}, vec(1, 0), vec(0, 1), vec(5, -7), vec(-1000, 2000), vec(-1, -1), vec(1<<20, -1<<20), vec(1<<30+1, 1<<30+2), vec(-1<<40, 1<<50), vec(math.MaxInt/2, math.MinInt/2)} {
		expectShift(t, full(), by, moved(full(), by))
		expectShift(t, plain(), by, plain())
		expectShift(t, api.Table{}, by, api.Table{})
		far := moved(full(), vec(-1<<45, 1<<31))
		expectShift(t, far, by, moved(far, by))
	}
	expectShift(t, plain(api.Wall{Name: "w", A: vec(1, 2), B: vec(-3, 4)}), vec(10, -20), plain(api.Wall{Name: "w", A: vec(11, -18), B: vec(7, -16)}))
	expectShift(t, plain(api.Arc{C: vec(1, 2), S: vec(3, 4), E: vec(5, 6)}), vec(10, -20), plain(api.Arc{C: vec(11, -18), S: vec(13, -16), E: vec(15, -14)}))
	expectShift(t, plain(api.Zone{Lo: vec(1, 2), Hi: vec(3, 4), Half: vec(5, 6)}), vec(10, -20), plain(api.Zone{Lo: vec(11, -18), Hi: vec(13, -16), Half: vec(5, 6)}))
	expectShift(t, plain(api.Launcher{At: vec(1, 2), V: vec(3, 4)}), vec(10, -20), plain(api.Launcher{At: vec(11, -18), V: vec(3, 4)}))
	expectShift(t, plain(api.Saucer{C: vec(1, 2), Out: vec(3, 4)}), vec(10, -20), plain(api.Saucer{C: vec(11, -18), Out: vec(3, 4)}))
	expectShift(t, plain(api.Ramp{C: vec(1, 2), Dir: vec(3, 4)}), vec(10, -20), plain(api.Ramp{C: vec(11, -18), Dir: vec(3, 4)}))
}

// P9.4: shifted tables stay valid as far as there is room, and have texts.
func TestShiftedTables(t *testing.T) {
	for _, by := range []api.Vec{vec(5, -7), vec(-1000000, 1000000), vec(1<<20-350, 1<<20-460)} {
		x := layout.Shift(full(), by)
		s, ok := layout.Text(x)
		if !ok {
			t.Error("no text of the table shifted by", by)
		}
		expectTable(t, s, x)
	}
	expectCheck(t, "a table that is shifted too far", layout.Shift(full(), vec(1<<20-349, 0)), api.ErrRange)
}

// mirrored is x mirrored in X.
func mirrored(x api.Table) api.Table {
	x = copied(x)
	for _, f := range leaves(&x) {
		if v, first := component(f); v != "" && first {
			f.v.SetInt(-f.v.Int())
		}
	}
	for i, w := range x.Walls {
		x.Walls[i].A, x.Walls[i].B = w.B, w.A
	}
	for i, a := range x.Arcs {
		x.Arcs[i].S, x.Arcs[i].E = a.E, a.S
	}
	for i, z := range x.Zones {
		x.Zones[i].Lo, x.Zones[i].Hi = vec(z.Hi.X, z.Lo.Y), vec(z.Lo.X, z.Hi.Y)
	}
	for i, f := range x.Flippers {
		x.Flippers[i].Mirror = !f.Mirror
	}
	return x
}

// expectMirror checks Mirror of a table, and that mirroring it again gives it back.
func expectMirror(t *testing.T, x, want api.Table) {
	t.Helper()
	got := layout.Mirror(x)
	if !equal(got, want) {
		t.Errorf("Mirror is %+v instead of %+v", got, want)
	}
	if back := layout.Mirror(got); !equal(back, x) {
		t.Errorf("Mirror of Mirror is %+v instead of %+v", back, x)
	}
}

// P9.4, P9.5: Mirror of each kind of element, and twice.
func TestMirror(t *testing.T) {
	for _, c := range []struct{ x, want any }{
		{api.Wall{Name: "w", Kind: 3, Level: 1, A: vec(1, 2), B: vec(-3, 4), Rest: 5, Grip: 6, Kick: 7, Min: 8, Coil: 9, Switch: 10}, api.Wall{Name: "w", Kind: 3, Level: 1, A: vec(3, 4), B: vec(-1, 2), Rest: 5, Grip: 6, Kick: 7, Min: 8, Coil: 9, Switch: 10}},
		{api.Arc{Name: "a", Level: 1, C: vec(1, 2), S: vec(301, 2), E: vec(1, 302), Rest: 5, Grip: 6, Min: 8, Switch: 10}, api.Arc{Name: "a", Level: 1, C: vec(-1, 2), S: vec(-1, 302), E: vec(-301, 2), Rest: 5, Grip: 6, Min: 8, Switch: 10}},
		{api.Post{Name: "p", Level: 1, C: vec(1, 2), Size: 3, Rest: 4, Grip: 5, Kick: 6, Min: 7, Coil: 8, Switch: 9}, api.Post{Name: "p", Level: 1, C: vec(-1, 2), Size: 3, Rest: 4, Grip: 5, Kick: 6, Min: 7, Coil: 8, Switch: 9}},
		{api.Flipper{Name: "f", Level: 1, P: vec(1, -2), Length: 3, Low: -4, High: 5, Up: 6, Down: 7, Max: 8, Rest: 9, Grip: 10, Coil: 11, Switch: 12}, api.Flipper{Name: "f", Level: 1, P: vec(-1, -2), Length: 3, Mirror: true, Low: -4, High: 5, Up: 6, Down: 7, Max: 8, Rest: 9, Grip: 10, Coil: 11, Switch: 12}},
		{api.Flipper{Name: "f", Mirror: true}, api.Flipper{Name: "f"}},
		{api.Zone{Name: "z", Level: 1, Lo: vec(-1, 2), Hi: vec(3, 4), Half: vec(5, -6), Coil: 7}, api.Zone{Name: "z", Level: 1, Lo: vec(-3, 2), Hi: vec(1, 4), Half: vec(-5, -6), Coil: 7}},
		{api.Saucer{Name: "s", Level: 1, C: vec(1, 2), Size: 3, Limit: 4, Out: vec(5, -6), Coil: 7, Switch: 8}, api.Saucer{Name: "s", Level: 1, C: vec(-1, 2), Size: 3, Limit: 4, Out: vec(-5, -6), Coil: 7, Switch: 8}},
		{api.Lane{Name: "l", Level: 1, C: vec(1, 2), Size: 3, Switch: 4}, api.Lane{Name: "l", Level: 1, C: vec(-1, 2), Size: 3, Switch: 4}},
		{api.Ramp{Name: "r", From: 1, To: 2, C: vec(1, 2), Size: 3, Dir: vec(-4, 5)}, api.Ramp{Name: "r", From: 1, To: 2, C: vec(-1, 2), Size: 3, Dir: vec(4, 5)}},
		{api.Drain{Name: "d", Level: 1, C: vec(1, 2), Size: 3}, api.Drain{Name: "d", Level: 1, C: vec(-1, 2), Size: 3}},
		{api.Launcher{Name: "l", Level: 1, At: vec(1, 2), V: vec(3, 4), Coil: 5}, api.Launcher{Name: "l", Level: 1, At: vec(-1, 2), V: vec(-3, 4), Coil: 5}},
	} {
		expectMirror(t, plain(c.x), plain(c.want))
		expectMirror(t, plain(c.want), plain(c.x))
	}
	own := api.Table{Radius: 100, Balls: 2, Rest: 3, Gravity: vec(4, -5), Drag: 6, Shift: 7, Trough: []int{8, 9}}
	want := own
	want.Gravity = vec(-4, -5)
	expectMirror(t, own, want)
	expectMirror(t, api.Table{}, api.Table{})
	expectMirror(t, full(), mirrored(full()))
}

// P9.4: mirrored tables stay valid and have texts; also those that are shifted.
func TestMirroredTables(t *testing.T) {
	for _, x := range []api.Table{full(), plain(), long(1400), layout.Shift(full(), vec(12345, -54321))} {
		y := layout.Mirror(x)
		s, ok := layout.Text(y)
		if !ok {
			t.Errorf("no text of the mirrored table %+v", y)
		}
		expectTable(t, s, y)
		expectMirror(t, x, y)
		by := vec(700, 800)
		if !equal(layout.Mirror(layout.Shift(x, by)), layout.Shift(y, vec(-700, 800))) {
			t.Error("a shifted table is not mirrored as a mirrored one is shifted")
		}
	}
}

// P9.4, P9.5: tables that are not valid are mirrored and shifted as well.
func TestMoveOfAnything(t *testing.T) {
	for _, c := range wrongs() {
		x := changed(c.change)
		expectMirror(t, x, mirrored(x))
		expectShift(t, x, vec(-5, 6), moved(x, vec(-5, 6)))
	}
	z := plain(api.Zone{Lo: vec(5, 6), Hi: vec(-7, -8)})
	expectMirror(t, z, plain(api.Zone{Lo: vec(7, 6), Hi: vec(-5, -8)}))
	for _, n := range []int{math.MaxInt, -math.MaxInt, 1 << 31, -1 << 40} {
		x := full()
		for _, f := range leaves(&x) {
			if f.v.Kind() == reflect.Int {
				f.v.SetInt(int64(n))
			}
		}
		expectMirror(t, x, mirrored(x))
		expectShift(t, x, vec(0, 0), x)
	}
	least := changed(func(x *api.Table) {
		for _, f := range leaves(x) {
			if f.v.Kind() == reflect.Int {
				f.v.SetInt(math.MinInt)
			}
		}
	})
	layout.Mirror(least) // what it returns is not promised, only that it does
	layout.Shift(least, vec(math.MinInt, -1))
	expectCheck(t, "a table of the least numbers", least, api.ErrLimit)
	expectNoText(t, "a table of the least numbers", least)
	many := crowd("Posts", 3000)
	expectMirror(t, many, mirrored(many))
	expectShift(t, many, vec(3, 4), moved(many, vec(3, 4)))
}
