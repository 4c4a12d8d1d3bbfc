package layout_test

import (
	"reflect"
	"slices"
	"strconv"
	"strings"
	"testing"

	"pinball/api"
	"pinball/layout"
)

// longest is a name of api.MaxName bytes.
const longest = "abcdefghij12"

// fullText is the text of a table with elements of all kinds, with all keys in their order and a number of its own at nearly each of them.
const fullText = `table radius 100 balls 3 gravity 3 -4 drag 700 9 rest 5 trough 21;
wall w1 level 1 from 10 20 to 30 40 rest 1 grip 2 kick 3 min 4 coil 5 switch 6;
gate g1 level 2 from -11 21 to 31 -41 rest 7 grip 8 kick 9 min 10 coil 11 switch 12;
target t1 level 3 from 50 51 to 52 53 rest 13 grip 14 kick 15 min 16 coil 17 switch 18;
sling s1 level 0 from 54 55 to 56 57 rest 0 grip 15 kick 19 min 20 coil 21 switch 22;
arc a1 level 3 center 50 60 from 350 460 to -250 460 rest 2 grip 9 min 77 switch 33;
arc abcdefghij12 level 1 center -1 -2 from 200 -2 to -1 199 rest 3 grip 4 min 78 switch -1;
post p1 level 2 center 61 62 size 63 rest 4 grip 5 kick 64 min 65 coil 30 switch 31;
post p2 level 1 center -61 -62 size 0 rest 6 grip 7 kick 66 min 67 coil -1 switch 32;
flipper f1 level 1 center 70 71 length 72 mirror range -200 100 up 11 down 12 max 8 rest 9 grip 10 coil 13 switch 34;
flipper f2 level 2 center 73 74 length 75 range -200 100 up 14 down 15 max 7 rest 11 grip 12 coil 14 switch 35;
zone z1 level 3 from -80 -81 to 82 83 half 84 -85 coil 16;
zone z2 level 1 from 86 87 to 88 89 half -90 91 coil -1;
saucer c1 level 1 center 92 93 size 94 limit 95 out 96 -97 coil 18 switch 36;
saucer c2 level 2 center 98 99 size 99 limit 101 out -102 103 coil 19 switch 37;
lane l1 level 3 center 104 105 size 106 switch 38;
lane l2 level 2 center 107 108 size 109 switch 39;
ramp r1 level 1 into 2 center 110 111 size 112 dir 113 -114;
ramp r2 level 3 into 0 center 115 116 size 117 dir -118 119;
drain d1 level 1 center 120 121 size 122;
drain d2 level 2 center 123 124 size 125;
launcher h1 level 0 center 126 127 out 128 -129 coil 0;
launcher h2 level 3 center 130 131 out -132 133 coil 23;
`

// full is the table of fullText.
func full() api.Table {
	return api.Table{
		Radius: 100, Balls: 3, Rest: 5, Gravity: vec(3, -4), Drag: 700, Shift: 9, Trough: []int{21, 22, 23},
		Walls: []api.Wall{
			{Name: "w1", Kind: api.WallPlain, Level: 1, A: vec(10, 20), B: vec(30, 40), Rest: 1, Grip: 2, Kick: 3, Min: 4, Coil: 5, Switch: 6},
			{Name: "g1", Kind: api.WallGate, Level: 2, A: vec(-11, 21), B: vec(31, -41), Rest: 7, Grip: 8, Kick: 9, Min: 10, Coil: 11, Switch: 12},
			{Name: "t1", Kind: api.WallTarget, Level: 3, A: vec(50, 51), B: vec(52, 53), Rest: 13, Grip: 14, Kick: 15, Min: 16, Coil: 17, Switch: 18},
			{Name: "s1", Kind: api.WallSling, Level: 0, A: vec(54, 55), B: vec(56, 57), Rest: 0, Grip: 15, Kick: 19, Min: 20, Coil: 21, Switch: 22},
		},
		Arcs: []api.Arc{
			{Name: "a1", Level: 3, C: vec(50, 60), S: vec(350, 460), E: vec(-250, 460), Rest: 2, Grip: 9, Min: 77, Switch: 33},
			{Name: longest, Level: 1, C: vec(-1, -2), S: vec(200, -2), E: vec(-1, 199), Rest: 3, Grip: 4, Min: 78, Switch: -1},
		},
		Posts: []api.Post{
			{Name: "p1", Level: 2, C: vec(61, 62), Size: 63, Rest: 4, Grip: 5, Kick: 64, Min: 65, Coil: 30, Switch: 31},
			{Name: "p2", Level: 1, C: vec(-61, -62), Size: 0, Rest: 6, Grip: 7, Kick: 66, Min: 67, Coil: -1, Switch: 32},
		},
		Flippers: []api.Flipper{
			{Name: "f1", Level: 1, P: vec(70, 71), Length: 72, Mirror: true, Low: -200, High: 100, Up: 11, Down: 12, Max: 8, Rest: 9, Grip: 10, Coil: 13, Switch: 34},
			{Name: "f2", Level: 2, P: vec(73, 74), Length: 75, Mirror: false, Low: -200, High: 100, Up: 14, Down: 15, Max: 7, Rest: 11, Grip: 12, Coil: 14, Switch: 35},
		},
		Zones: []api.Zone{
			{Name: "z1", Level: 3, Lo: vec(-80, -81), Hi: vec(82, 83), Half: vec(84, -85), Coil: 16},
			{Name: "z2", Level: 1, Lo: vec(86, 87), Hi: vec(88, 89), Half: vec(-90, 91), Coil: -1},
		},
		Saucers: []api.Saucer{
			{Name: "c1", Level: 1, C: vec(92, 93), Size: 94, Limit: 95, Out: vec(96, -97), Coil: 18, Switch: 36},
			{Name: "c2", Level: 2, C: vec(98, 99), Size: 99, Limit: 101, Out: vec(-102, 103), Coil: 19, Switch: 37},
		},
		Lanes: []api.Lane{
			{Name: "l1", Level: 3, C: vec(104, 105), Size: 106, Switch: 38},
			{Name: "l2", Level: 2, C: vec(107, 108), Size: 109, Switch: 39},
		},
		Ramps: []api.Ramp{
			{Name: "r1", From: 1, To: 2, C: vec(110, 111), Size: 112, Dir: vec(113, -114)},
			{Name: "r2", From: 3, To: 0, C: vec(115, 116), Size: 117, Dir: vec(-118, 119)},
		},
		Drains: []api.Drain{
			{Name: "d1", Level: 1, C: vec(120, 121), Size: 122},
			{Name: "d2", Level: 2, C: vec(123, 124), Size: 125},
		},
		Launchers: []api.Launcher{
			{Name: "h1", Level: 0, At: vec(126, 127), V: vec(128, -129), Coil: 0},
			{Name: "h2", Level: 3, At: vec(130, 131), V: vec(-132, 133), Coil: 23},
		},
	}
}

// plain is the table of the text "table radius 100;", with these elements.
func plain(elements ...any) api.Table {
	t := api.Table{Radius: 100, Balls: 1, Rest: 8}
	for _, x := range elements {
		put(&t, x)
	}
	return t
}

// put appends an element to its list.
func put(t *api.Table, element any) {
	lists := reflect.ValueOf(t).Elem()
	for i := range lists.NumField() {
		if l := lists.Field(i); l.Type() == reflect.SliceOf(reflect.TypeOf(element)) {
			l.Set(reflect.Append(l, reflect.ValueOf(element)))
			return
		}
	}
	panic("the test's element")
}

// vec is a vector.
func vec(x, y int) api.Vec {
	return api.Vec{X: x, Y: y}
}

// leaf is a number, a string or a bool of a table; its path is without the indices of lists.
type leaf struct {
	path string
	v    reflect.Value
}

// leaves are all leaves of t, to be read and set.
func leaves(t *api.Table) []leaf {
	return leavesOf(reflect.ValueOf(t).Elem(), "")
}

func leavesOf(v reflect.Value, path string) []leaf {
	var l []leaf
	switch v.Kind() {
	case reflect.Struct:
		for i := range v.NumField() {
			l = append(l, leavesOf(v.Field(i), strings.TrimPrefix(path+"."+v.Type().Field(i).Name, "."))...)
		}
	case reflect.Slice:
		for i := range v.Len() {
			l = append(l, leavesOf(v.Index(i), path)...)
		}
	default:
		l = append(l, leaf{path, v})
	}
	return l
}

// lists are the indices of the fields of a table that are lists, in their order.
func lists() []int {
	var l []int
	for i := range reflect.TypeFor[api.Table]().NumField() {
		if reflect.TypeFor[api.Table]().Field(i).Type.Kind() == reflect.Slice {
			l = append(l, i)
		}
	}
	return l
}

// list is the list of t with this index.
func list(t *api.Table, i int) reflect.Value {
	return reflect.ValueOf(t).Elem().Field(i)
}

// copied is a copy of t that shares no list with it.
func copied(t api.Table) api.Table {
	for _, i := range lists() {
		l := list(&t, i)
		l.Set(reflect.AppendSlice(reflect.MakeSlice(l.Type(), 0, l.Len()), l))
	}
	return t
}

// equal reports whether two tables are equal; nil and empty lists are.
func equal(a, b api.Table) bool {
	return reflect.DeepEqual(copied(a), copied(b))
}

// changed is the full table after a change.
func changed(change func(*api.Table)) api.Table {
	t := full()
	change(&t)
	return t
}

// expectCheck checks the error of a table.
func expectCheck(t *testing.T, what string, x api.Table, want api.Errno) {
	t.Helper()
	if e := layout.Check(x); e != want {
		t.Errorf("Check of %s is %v instead of %v", what, e, want)
	}
}

// expectTable checks that Compile of s is a table, and that this is valid.
func expectTable(t *testing.T, s string, want api.Table) {
	t.Helper()
	got, e, at := layout.Compile(s)
	if !equal(got, want) || e != api.OK || at != 0 {
		t.Errorf("Compile of %s is %+v %v %v instead of %+v", short(s), got, e, at, want)
	}
	expectCheck(t, short(s), got, api.OK)
}

// expectError checks that Compile of s has an error at an offset and no table.
func expectError(t *testing.T, s string, want api.Errno, offset int) {
	t.Helper()
	got, e, at := layout.Compile(s)
	if !reflect.DeepEqual(got, api.Table{}) || e != want || at != offset {
		t.Errorf("Compile of %s is %+v %v %v instead of the error %v at %v", short(s), got, e, at, want, offset)
	}
}

// expectText checks the text of a table, and that the text is that of the table.
func expectText(t *testing.T, x api.Table, want string) {
	t.Helper()
	if s, ok := layout.Text(x); s != want || !ok {
		t.Errorf("Text is %s %v instead of %s", short(s), ok, short(want))
	}
	expectTable(t, want, x)
}

// expectNoText checks that a table has no text.
func expectNoText(t *testing.T, what string, x api.Table) {
	t.Helper()
	if s, ok := layout.Text(x); s != "" || ok {
		t.Errorf("Text of %s is %s %v", what, short(s), ok)
	}
}

// expectSame checks Same for two tables, in both orders.
func expectSame(t *testing.T, what string, a, b api.Table, want bool) {
	t.Helper()
	if layout.Same(a, b) != want || layout.Same(b, a) != want {
		t.Errorf("Same of %s is not %v", what, want)
	}
}

// short is s in quotes, cut if it is long.
func short(s string) string {
	if len(s) > 400 {
		return strconv.Quote(s[:200]) + ".. of " + strconv.Itoa(len(s)) + " bytes"
	}
	return strconv.Quote(s)
}

// without is the list without the element i.
func without[E any](l []E, i int) []E {
	return slices.Delete(slices.Clone(l), i, i+1)
}
