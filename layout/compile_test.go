package layout_test

import (
	"strconv"
	"strings"
	"testing"

	"pinball/api"
	"pinball/layout"
	"pinball/source"
)

// sample is a statement: its required keys, its other keys with numbers that are not those of missing keys, and what it declares
// with the required keys alone and with all of them.
type sample struct {
	word             string
	required, others []string
	least, most      any
}

// samples have all words but that of the table, which come out as elements with the name n.
func samples() []sample {
	l := []sample{
		{"arc", []string{"center 1 2", "from 301 2", "to 1 302"}, []string{"level 3", "rest 4", "grip 5", "min 6", "switch 7"},
			api.Arc{Name: "n", C: vec(1, 2), S: vec(301, 2), E: vec(1, 302), Rest: 8, Switch: -1},
			api.Arc{Name: "n", C: vec(1, 2), S: vec(301, 2), E: vec(1, 302), Level: 3, Rest: 4, Grip: 5, Min: 6, Switch: 7}},
		{"post", []string{"center 1 2", "size 3"}, []string{"level 2", "rest 4", "grip 5", "kick 6", "min 7", "coil 9", "switch 10"},
			api.Post{Name: "n", C: vec(1, 2), Size: 3, Rest: 8, Coil: -1, Switch: -1},
			api.Post{Name: "n", C: vec(1, 2), Size: 3, Level: 2, Rest: 4, Grip: 5, Kick: 6, Min: 7, Coil: 9, Switch: 10}},
		{"flipper", []string{"center 1 2", "length 3", "range -5 6"}, []string{"level 1", "mirror", "up 7", "down 9", "max 10", "rest 11", "grip 12", "coil 13", "switch 14"},
			api.Flipper{Name: "n", P: vec(1, 2), Length: 3, Low: -5, High: 6, Up: 4, Down: 2, Max: 16, Rest: 8, Coil: -1, Switch: -1},
			api.Flipper{Name: "n", P: vec(1, 2), Length: 3, Low: -5, High: 6, Level: 1, Mirror: true, Up: 7, Down: 9, Max: 10, Rest: 11, Grip: 12, Coil: 13, Switch: 14}},
		{"zone", []string{"from -1 -2", "to 3 4", "half 5 -6"}, []string{"level 3", "coil 7"},
			api.Zone{Name: "n", Lo: vec(-1, -2), Hi: vec(3, 4), Half: vec(5, -6), Coil: -1},
			api.Zone{Name: "n", Lo: vec(-1, -2), Hi: vec(3, 4), Half: vec(5, -6), Level: 3, Coil: 7}},
		{"saucer", []string{"center 1 2", "size 3", "out 4 -5"}, []string{"level 2", "limit 6", "coil 7", "switch 9"},
			api.Saucer{Name: "n", C: vec(1, 2), Size: 3, Out: vec(4, -5), Limit: 1 << 20, Coil: -1, Switch: -1},
			api.Saucer{Name: "n", C: vec(1, 2), Size: 3, Out: vec(4, -5), Level: 2, Limit: 6, Coil: 7, Switch: 9}},
		{"lane", []string{"center 1 2", "size 3"}, []string{"level 1", "switch 4"},
			api.Lane{Name: "n", C: vec(1, 2), Size: 3, Switch: -1},
			api.Lane{Name: "n", C: vec(1, 2), Size: 3, Level: 1, Switch: 4}},
		{"ramp", []string{"into 1", "center 1 2", "size 3", "dir 4 -5"}, []string{"level 2"},
			api.Ramp{Name: "n", To: 1, C: vec(1, 2), Size: 3, Dir: vec(4, -5)},
			api.Ramp{Name: "n", To: 1, C: vec(1, 2), Size: 3, Dir: vec(4, -5), From: 2}},
		{"drain", []string{"center 1 2", "size 3"}, []string{"level 3"},
			api.Drain{Name: "n", C: vec(1, 2), Size: 3},
			api.Drain{Name: "n", C: vec(1, 2), Size: 3, Level: 3}},
	}
	for i, word := range []string{"wall", "gate", "target", "sling"} {
		l = append(l, sample{word, []string{"from 1 -2", "to -3 4"}, []string{"level 1", "rest 5", "grip 6", "kick 7", "min 9", "coil 10", "switch 11"},
			api.Wall{Name: "n", Kind: i + 1, A: vec(1, -2), B: vec(-3, 4), Rest: 8, Coil: -1, Switch: -1},
			api.Wall{Name: "n", Kind: i + 1, A: vec(1, -2), B: vec(-3, 4), Level: 1, Rest: 5, Grip: 6, Kick: 7, Min: 9, Coil: 10, Switch: 11}})
	}
	return l
}

// missing are the numbers of keys that are missing.
var missing = map[string]string{"level": "0", "rest": "8", "grip": "0", "kick": "0", "min": "0", "coil": "-1", "switch": "-1", "up": "4", "down": "2", "max": "16", "limit": "1048576"}

// statement is a statement with the name n.
func statement(word string, keys ...string) string {
	return word + " n " + strings.Join(keys, " ") + ";"
}

// joined is a list with others behind it.
func joined(a, b []string) []string {
	return append(append([]string{}, a...), b...)
}

// P9.2: every word with its required keys alone, with all of its keys, with the others ahead of them.
func TestCompileWords(t *testing.T) {
	for _, c := range samples() {
		expectTable(t, "table radius 100;"+statement(c.word, c.required...), plain(c.least))
		expectTable(t, "table radius 100;"+statement(c.word, joined(c.required, c.others)...), plain(c.most))
		expectTable(t, statement(c.word, joined(c.others, c.required)...)+"table radius 100;", plain(c.most))
	}
	expectTable(t, "table radius 100; launcher n center 1 2 out 3 -4 coil 0;", plain(api.Launcher{Name: "n", At: vec(1, 2), V: vec(3, -4)}))
	expectTable(t, "table radius 100; launcher n level 3 center 1 2 out 3 -4 coil 5;", plain(api.Launcher{Name: "n", Level: 3, At: vec(1, 2), V: vec(3, -4), Coil: 5}))
	expectError(t, "table radius 100; launcher n center 1 2 out 3 -4;", api.ErrRange, 0) // its coil is -1
}

// P9.2: every word without each of its required keys, with its other keys and without them.
func TestCompileRequired(t *testing.T) {
	l := append(samples(), sample{word: "launcher", required: []string{"center 1 2", "out 3 4"}, others: []string{"level 1", "coil 5"}})
	for _, c := range l {
		for i := range c.required {
			some := without(c.required, i)
			for _, keys := range [][]string{some, joined(c.others, some), {}, c.others} {
				expectError(t, "table radius 100;\n"+statement(c.word, keys...)+" # a comment", api.ErrMissing, 18)
				expectError(t, statement(c.word, keys...)+"table radius 100;", api.ErrMissing, 0)
			}
		}
	}
}

// P9.2: a key that is missing has the same value as one that is there with it; every key but the required ones and mirror has one.
func TestCompileMissing(t *testing.T) {
	for _, c := range samples() {
		for i, key := range c.others {
			word, _, _ := strings.Cut(key, " ")
			if word == "mirror" {
				x := c.most.(api.Flipper)
				x.Mirror = false
				expectTable(t, "table radius 100;"+statement(c.word, joined(c.required, without(c.others, i))...), plain(x))
				continue
			}
			if word == "level" && c.word == "ramp" {
				continue // TestCompileWords has this
			}
			if missing[word] == "" || source.Arity(c.word, word) != 1 {
				t.Fatal("the test's key", key)
			}
			some := joined(c.required, without(c.others, i))
			said := compiled(t, "table radius 100;"+statement(c.word, append(some, word, missing[word])...))
			expectTable(t, "table radius 100;"+statement(c.word, some...), said)
		}
	}
}

// compiled is the table of a text that must have one.
func compiled(t *testing.T, s string) api.Table {
	t.Helper()
	x, e, at := layout.Compile(s)
	if e != api.OK {
		t.Fatal("Compile of", short(s), "has the error", e, at)
	}
	return x
}

// P9.2: the statement of the table: its keys, those that are missing, its place.
func TestCompileTheTable(t *testing.T) {
	expectTable(t, "table radius 64;", api.Table{Radius: 64, Balls: 1, Rest: 8})
	expectTable(t, "table radius 32768 balls 0;", api.Table{Radius: 32768, Rest: 8})
	expectTable(t, "table rest 0 radius 99;", api.Table{Radius: 99, Balls: 1})
	expectTable(t, "table radius 99 rest 15;", api.Table{Radius: 99, Balls: 1, Rest: 15})
	expectTable(t, "table drag 12 3 radius 99;", api.Table{Radius: 99, Balls: 1, Rest: 8, Drag: 12, Shift: 3})
	expectTable(t, "table gravity -7 6 radius 99;", api.Table{Radius: 99, Balls: 1, Rest: 8, Gravity: vec(-7, 6)})
	all := api.Table{Radius: 99, Balls: 2, Rest: 3, Gravity: vec(-7, 6), Drag: 12, Shift: 4, Trough: []int{9, 10}}
	expectTable(t, "table radius 99 balls 2 gravity -7 6 drag 12 4 rest 3 trough 9;", all)
	expectTable(t, "table trough 9 rest 3 drag 12 4 gravity -7 6 balls 2 radius 99;", all)
	with := all
	with.Drains = []api.Drain{{Name: "d", Size: 5}, {Name: "e", Size: 6, C: vec(1, 0)}}
	for _, s := range []string{"T d e", "d T e", "d e T"} {
		s = strings.NewReplacer("T", "table radius 99 balls 2 gravity -7 6 drag 12 4 rest 3 trough 9;", "d", "drain d center 0 0 size 5;", "e", "drain e center 1 0 size 6;").Replace(s)
		expectTable(t, s, with)
	}
	for _, s := range []string{"table;", "table balls 1 gravity 0 0 drag 0 0 rest 8 trough 1;", "drain d center 0 0 size 1; table balls 3;"} {
		expectError(t, s, api.ErrMissing, strings.Index(s, "table"))
	}
}

// P9.2: a second table, also with elements between them, and a third one.
func TestCompileTwoTables(t *testing.T) {
	for _, between := range []string{"", "drain d center 0 0 size 1;", " wall table from 0 0 to 1 1; # table;\n"} {
		for _, second := range []string{"table radius 100;", "table;", "table radius 1;", "table radius 100; table radius 100;"} {
			expectError(t, "table radius 100;"+between+second, api.ErrDuplicate, 17+len(between))
		}
	}
}

// P9.2: the trough, for every number of balls.
func TestCompileTrough(t *testing.T) {
	for balls := range api.MaxBalls + 1 {
		begin := "table radius 100 balls " + strconv.Itoa(balls)
		expectTable(t, begin+";", api.Table{Radius: 100, Balls: balls, Rest: 8})
		for n := -70; n <= 70; n++ {
			want := api.Table{Radius: 100, Balls: balls, Rest: 8}
			valid := true
			for i := range balls {
				x := n + i
				if n == -1 {
					x = -1
				}
				want.Trough = append(want.Trough, x)
				valid = valid && -1 <= x && x <= api.MaxSwitch
			}
			s := begin + " trough " + strconv.Itoa(n) + ";"
			if valid {
				expectTable(t, s, want)
			} else {
				expectError(t, s, api.ErrRange, 0)
			}
		}
	}
	expectTable(t, "table trough 63 radius 100;", api.Table{Radius: 100, Balls: 1, Rest: 8, Trough: []int{63}})
	expectTable(t, "table trough 5 balls 2 radius 100;", api.Table{Radius: 100, Balls: 2, Rest: 8, Trough: []int{5, 6}})
	expectTable(t, "table trough -1073741824 radius 100 balls 0;", api.Table{Radius: 100, Rest: 8})
	expectError(t, "table trough 1073741824 radius 100 balls 6;", api.ErrRange, 0)
	expectError(t, "table trough -1073741824 radius 100 balls 6;", api.ErrRange, 0)
	expectError(t, "table trough -1 radius 100 balls 1073741824;", api.ErrLimit, 0)
	expectError(t, "table trough -1 radius 100 balls -1073741824;", api.ErrLimit, 0)
}

// P9.2: the elements are in the order of the text, in the lists of their words; the example of the chapter.
func TestCompileLists(t *testing.T) {
	expectTable(t, fullText, full())
	lines := strings.SplitAfter(strings.TrimSpace(fullText)+"\n", "\n")
	var woven string // the first ones of all lists, then the last ones; the order in each list stays
	for _, half := range [][2]int{{0, 2}, {1, 2}} {
		for i := half[0]; i < len(lines); i += half[1] {
			woven += lines[i]
		}
	}
	want := full()
	want.Walls = []api.Wall{want.Walls[1], want.Walls[3], want.Walls[0], want.Walls[2]}
	want.Arcs[0], want.Arcs[1] = want.Arcs[1], want.Arcs[0]
	want.Posts[0], want.Posts[1] = want.Posts[1], want.Posts[0]
	want.Flippers[0], want.Flippers[1] = want.Flippers[1], want.Flippers[0]
	want.Zones[0], want.Zones[1] = want.Zones[1], want.Zones[0]
	want.Saucers[0], want.Saucers[1] = want.Saucers[1], want.Saucers[0]
	want.Lanes[0], want.Lanes[1] = want.Lanes[1], want.Lanes[0]
	want.Ramps[0], want.Ramps[1] = want.Ramps[1], want.Ramps[0]
	want.Drains[0], want.Drains[1] = want.Drains[1], want.Drains[0]
	want.Launchers[0], want.Launchers[1] = want.Launchers[1], want.Launchers[0]
	expectTable(t, woven, want)
	expectTable(t, "table radius 100 balls 2 trough 5; wall w from 0 0 to 900 0;", api.Table{
		Radius: 100, Balls: 2, Rest: 8, Trough: []int{5, 6}, Walls: []api.Wall{{Name: "w", Kind: api.WallPlain, B: vec(900, 0), Rest: 8, Coil: -1, Switch: -1}},
	})
}

// P9.2: errors of source.Parse and scan.Words, with their offsets.
func TestCompileErrors(t *testing.T) {
	for _, s := range []string{
		"?", "table radius 100; ?", "table radius 100", "table radius;", "table t radius 100;", "bumper b;", "wall;", "wall w mirror;", "table radius 100 radius 100;", "table radius 1073741825;", "post abcdefghij123;", "table radius 100; 5a",
		strings.Repeat(" ", api.MaxText+1), strings.Repeat("post p;", 401), "table radius 100; post p center 1 size 2;", "flipper f mirror 1;", "\xff", "table radius 100;\x00", ";",
	} {
		_, e, at := source.Parse(s)
		if e == api.OK {
			t.Fatal("the test's text", short(s))
		}
		expectError(t, s, e, at)
	}
}
