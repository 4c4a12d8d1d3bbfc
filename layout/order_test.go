package layout_test

import (
	"strings"
	"testing"

	"pinball/api"
)

// wrong is a change of the full table that makes it invalid.
type wrong struct {
	what   string
	e      api.Errno
	change func(*api.Table)
}

// wrongs are changes of different fields, in the order in which their errors come.
func wrongs() []wrong {
	return []wrong{
		{"balls", api.ErrLimit, func(t *api.Table) { t.Balls, t.Trough = -1, nil }},
		{"launchers", api.ErrLimit, func(t *api.Table) { t.Launchers = append(t.Launchers, make([]api.Launcher, 3)...) }},
		{"drag", api.ErrRange, func(t *api.Table) { t.Drag = 1001 }},
		{"gravity", api.ErrRange, func(t *api.Table) { t.Gravity.Y = -257 }},
		{"name of the first wall", api.ErrName, func(t *api.Table) { t.Walls[0].Name = "" }},
		{"range of the first wall", api.ErrRange, func(t *api.Table) { t.Walls[0].Kind = 0 }},
		{"shape of the first wall", api.ErrShape, func(t *api.Table) { t.Walls[0].A = t.Walls[0].B }},
		{"second wall twice", api.ErrDuplicate, func(t *api.Table) { t.Walls[1].Name = t.Walls[0].Name }},
		{"range of the second wall", api.ErrRange, func(t *api.Table) { t.Walls[1].Kick = -1 }},
		{"shape of the second wall", api.ErrShape, func(t *api.Table) { t.Walls[1].A = t.Walls[1].B }},
		{"name of an arc", api.ErrName, func(t *api.Table) { t.Arcs[0].Name = "A" }},
		{"range of an arc", api.ErrRange, func(t *api.Table) { t.Arcs[0].Rest = 16 }},
		{"shape of an arc", api.ErrShape, func(t *api.Table) { t.Arcs[0].S = t.Arcs[0].E }},
		{"name of a post", api.ErrDuplicate, func(t *api.Table) { t.Posts[0].Name = "t1" }},
		{"range of a post", api.ErrRange, func(t *api.Table) { t.Posts[0].Size = -1 }},
		{"name of a flipper", api.ErrName, func(t *api.Table) { t.Flippers[1].Name = longest + "3" }},
		{"range of a flipper", api.ErrRange, func(t *api.Table) { t.Flippers[1].Low = t.Flippers[1].High }},
		{"name of a zone", api.ErrDuplicate, func(t *api.Table) { t.Zones[0].Name = "p2" }},
		{"range of a zone", api.ErrRange, func(t *api.Table) { t.Zones[0].Half.X = 257 }},
		{"shape of a zone", api.ErrShape, func(t *api.Table) { t.Zones[0].Hi.Y = t.Zones[0].Lo.Y }},
		{"name of a saucer", api.ErrName, func(t *api.Table) { t.Saucers[0].Name = "a b" }},
		{"range of a saucer", api.ErrRange, func(t *api.Table) { t.Saucers[0].Limit = -1 }},
		{"shape of a saucer", api.ErrShape, func(t *api.Table) { t.Saucers[0].Size = 100 }},
		{"name of a lane", api.ErrDuplicate, func(t *api.Table) { t.Lanes[1].Name = "l1" }},
		{"range of a lane", api.ErrRange, func(t *api.Table) { t.Lanes[1].Switch = 64 }},
		{"name of a ramp", api.ErrName, func(t *api.Table) { t.Ramps[0].Name = "1" }},
		{"range of a ramp", api.ErrRange, func(t *api.Table) { t.Ramps[0].To = -1 }},
		{"shape of a ramp", api.ErrShape, func(t *api.Table) { t.Ramps[0].Dir = vec(0, 0) }},
		{"name of a drain", api.ErrDuplicate, func(t *api.Table) { t.Drains[0].Name = "r2" }},
		{"range of a drain", api.ErrRange, func(t *api.Table) { t.Drains[0].Size = 0 }},
		{"name of a launcher", api.ErrName, func(t *api.Table) { t.Launchers[1].Name = "_" }},
		{"range of a launcher", api.ErrRange, func(t *api.Table) { t.Launchers[1].Coil = -1 }},
		{"overlap", api.ErrOverlap, func(t *api.Table) { t.Saucers[1].Level, t.Saucers[1].C = t.Saucers[0].Level, t.Saucers[0].C }},
	}
}

// P9.1: the first error that applies: each wrong table, and of each two faults the one that comes first.
func TestCheckOrder(t *testing.T) {
	for i, a := range wrongs() {
		expectCheck(t, a.what, changed(a.change), a.e)
		for _, b := range wrongs()[i+1:] {
			expectCheck(t, a.what+" and "+b.what, changed(func(x *api.Table) { b.change(x); a.change(x) }), a.e)
		}
	}
}

// P9.1: Trough is looked at with the fields of the table, the number of its elements with the lists.
func TestCheckTroughOrder(t *testing.T) {
	expectCheck(t, "a long trough of no switches", changed(func(x *api.Table) { x.Trough = []int{64, 64, 64, 64} }), api.ErrLimit)
	expectCheck(t, "a trough of no switch and a wall without a name", changed(func(x *api.Table) { x.Trough[2], x.Walls[0].Name = 64, "" }), api.ErrRange)
	expectCheck(t, "a trough of no switch and a wall that is there twice", changed(func(x *api.Table) { x.Trough[0], x.Walls[1].Name = -2, "w1" }), api.ErrRange)
	expectCheck(t, "two switches of the trough are equal", changed(func(x *api.Table) { x.Trough = []int{5, -1, 5} }), api.OK)
}

// P9.1: a name that is none is ErrName, also where it stands twice; a name is there twice only behind the first one.
func TestCheckNamesOrder(t *testing.T) {
	expectCheck(t, "no names", changed(func(x *api.Table) { x.Walls[0].Name, x.Walls[1].Name = "", "" }), api.ErrName)
	expectCheck(t, "names that are none", changed(func(x *api.Table) { x.Drains[0].Name, x.Drains[1].Name = "A", "A" }), api.ErrName)
	expectCheck(t, "the first of two equal names has a fault", changed(func(x *api.Table) { x.Walls[0].Name, x.Walls[0].Level = "h2", 4 }), api.ErrRange)
	expectCheck(t, "the last of two equal names has a fault", changed(func(x *api.Table) { x.Walls[0].Name, x.Launchers[1].Coil = "h2", 32 }), api.ErrDuplicate)
	expectCheck(t, "a fault between two equal names", changed(func(x *api.Table) { x.Walls[0].Name, x.Zones[0].Coil = "h2", 32 }), api.ErrRange)
}

// P9.2: faults of Check come behind those of the text.
func TestCompileOrder(t *testing.T) {
	const bad = "wall w from 0 0 to 0 0;"
	for i, c := range []struct {
		s  string
		e  api.Errno
		at string // where the error is: at the last time this stands in the text
	}{
		{"table radius 100;" + bad + "?", api.ErrSyntax, "?"},
		{"table radius 100; table radius 100; post p; post q size 1 size", api.ErrDuplicate, "size"},
		{"table radius 100; table radius 100; posts", api.ErrSyntax, "posts"},
		{"table; post p 2", api.ErrSyntax, "2"},
		{"table radius 1073741825; table;", api.ErrRange, "1073741825"},
		{"table radius 1; post p size 1; abcdefghij123", api.ErrName, "abcdefghij123"},
		{strings.Repeat("post p;", 400) + "wall", api.ErrLimit, "wall"},
		{"table radius 100; table radius 100; post p size 1;", api.ErrDuplicate, "table"},
		{"table radius 100; post p size 1; table radius 100;", api.ErrMissing, "post"},
		{"table balls 2; table radius 100; post p size 1;", api.ErrMissing, "table balls"},
		{"table radius 100; table; post p size 1;", api.ErrDuplicate, "table"},
		{"table radius 100; post p size 1; wall w from 1 2;", api.ErrMissing, "post"},
		{"post p size 1; table radius 100;", api.ErrMissing, "post"},
		{"table radius 1; table radius 1; table radius 1 balls 7;", api.ErrDuplicate, "table radius 1; table radius 1 balls"},
		{"post p size 1;", api.ErrMissing, "post"},
		{bad + "lane l center 1 2;", api.ErrMissing, "lane"},
		{bad + bad + "table balls 7;", api.ErrMissing, "table"},
		{"table radius 1;" + bad + "drain d size 9;", api.ErrMissing, "drain"},
	} {
		at := strings.LastIndex(c.s, c.at)
		if at < 0 {
			t.Fatal("the test's text", i)
		}
		expectError(t, c.s, c.e, at)
		expectError(t, " # table;\n"+c.s, c.e, at+10)
	}
	for _, s := range []string{"", " ", "# table", bad, bad + bad + " ", "wall table from 1 2 to 3 4;", "post p center 1 2 size -1; \n"} {
		expectError(t, s, api.ErrMissing, len(s))
	}
	expectError(t, strings.Repeat(" ", api.MaxText), api.ErrMissing, api.MaxText)
	expectError(t, strings.Repeat(" ", api.MaxText+1), api.ErrSize, 0)
}

// P9.2: the errors of Check are at the offset 0, in the order of Check.
func TestCompileCheckOrder(t *testing.T) {
	for _, c := range []struct {
		s string
		e api.Errno
	}{
		{"table radius 100 balls 7;", api.ErrLimit}, {"table radius 100 balls -1 trough 5;", api.ErrLimit}, {"table radius 100 balls 1073741824 trough 5;", api.ErrLimit}, {"table radius 63 balls 1073741824 trough -1;", api.ErrLimit},
		{"table radius 63;", api.ErrRange}, {"table radius 32769;", api.ErrRange}, {"table radius 100 rest 16;", api.ErrRange}, {"table radius 100 gravity 0 257;", api.ErrRange}, {"table radius 100 drag 1 15;", api.ErrRange}, {"table radius 100 trough 64;", api.ErrRange},
		{"post p center 0 0 size 1; table radius 100; lane p center 0 0 size 1;", api.ErrDuplicate}, {"table radius 100; wall w from 1 1 to 1 1;", api.ErrShape}, {"table radius 100; launcher l center 0 0 out 0 0;", api.ErrRange},
		{"table radius 100; saucer a center 0 0 size 9 out 0 0; saucer b center 1 1 size 9 out 0 0;", api.ErrOverlap},
		{"table radius 100; lane l center 0 0 size 0; wall w from 0 0 to 0 0;", api.ErrShape}, {"table radius 100; drain p center 0 0 size 1; wall p from 0 0 to 0 0;", api.ErrShape}, {"table radius 100; drain p center 0 0 size 0; wall p from 0 0 to 1 0;", api.ErrDuplicate},
		{"table radius 100;" + strings.Repeat("drain d center 0 0 size 0;", 5), api.ErrLimit},
	} {
		expectError(t, c.s, c.e, 0)
		expectError(t, "\n\n"+c.s, c.e, 0)
	}
}
