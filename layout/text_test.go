package layout_test

import (
	"fmt"
	"reflect"
	"strconv"
	"strings"
	"testing"

	"pinball/api"
	"pinball/layout"
)

// P9.3: all kinds of elements in all lists with all fields.
func TestText(t *testing.T) {
	expectText(t, full(), fullText)
	expectText(t, plain(), "table radius 100 balls 1 gravity 0 0 drag 0 0 rest 8;\n")
	expectText(t, api.Table{Radius: 64}, "table radius 64 balls 0 gravity 0 0 drag 0 0 rest 0;\n")
	expectText(t, plain(api.Launcher{Name: "n"}), "table radius 100 balls 1 gravity 0 0 drag 0 0 rest 8;\nlauncher n level 0 center 0 0 out 0 0 coil 0;\n")
	for _, name := range []string{"table", "wall", "mirror", "a", longest} {
		expectText(t, plain(api.Drain{Name: name, Size: 1}), "table radius 100 balls 1 gravity 0 0 drag 0 0 rest 8;\ndrain "+name+" level 0 center 0 0 size 1;\n")
	}
}

// P9.3: mirror is there if it is set.
func TestTextMirror(t *testing.T) {
	for i, mirror := range []string{"mirror ", ""} {
		for j, other := range []string{"mirror ", ""} {
			x := changed(func(x *api.Table) { x.Flippers[0].Mirror, x.Flippers[1].Mirror = i == 0, j == 0 })
			s := strings.Replace(fullText, "mirror ", mirror, 1)
			expectText(t, x, strings.Replace(s, "length 75 ", "length 75 "+other, 1))
		}
	}
}

// P9.3: troughs that are n, n + 1, .. or all -1 have a text, others do not.
func TestTextTrough(t *testing.T) {
	for _, c := range []struct {
		balls  int
		trough []int
		want   string // "" if there is none
	}{
		{3, nil, " "}, {3, []int{}, " "}, {0, nil, " "}, {0, []int{}, " "}, {0, []int{0}, ""},
		{1, []int{0}, "trough 0"}, {1, []int{63}, "trough 63"}, {1, []int{-1}, "trough -1"}, {1, []int{64}, ""}, {1, []int{-2}, ""},
		{2, []int{4, 5}, "trough 4"}, {2, []int{0, 1}, "trough 0"}, {2, []int{62, 63}, "trough 62"}, {2, []int{-1, -1}, "trough -1"},
		{2, []int{5}, ""}, {2, []int{-1}, ""}, {2, []int{5, 4}, ""}, {2, []int{5, 5}, ""}, {2, []int{5, 7}, ""}, {2, []int{-1, 0}, ""}, {2, []int{-1, 5}, ""}, {2, []int{5, -1}, ""}, {2, []int{0, -1}, ""}, {2, []int{63, 64}, ""}, {2, []int{4, 5, 6}, ""},
		{6, []int{7, 8, 9, 10, 11, 12}, "trough 7"}, {6, []int{-1, -1, -1, -1, -1, -1}, "trough -1"}, {6, []int{7, 8, 9, 10, 11}, ""}, {6, []int{7, 8, 9, 10, 11, 13}, ""}, {6, []int{-1, -1, -1, -1, -1, 0}, ""}, {6, []int{-1, 0, 1, 2, 3, 4}, ""},
	} {
		x := api.Table{Radius: 100, Balls: c.balls, Trough: c.trough}
		if c.want == "" {
			expectNoText(t, "a trough", x)
			continue
		}
		expectText(t, x, strings.TrimSpace("table radius 100 balls "+strconv.Itoa(c.balls)+" gravity 0 0 drag 0 0 rest 0 "+c.want)+";\n")
	}
}

// P9.3: tables that are not valid have no text.
func TestNoText(t *testing.T) {
	for _, c := range wrongs() {
		expectNoText(t, c.what, changed(c.change))
	}
	expectNoText(t, "the zero table", api.Table{})
	for _, kind := range []int{-1, 0, 5, 100} {
		expectNoText(t, "a wall of the kind "+strconv.Itoa(kind), changed(func(x *api.Table) { x.Walls[2].Kind = kind }))
	}
	for _, name := range []string{"", " ", "A", "1", "a b", "a;", "a#", "w ", " w", "a\n", "w from", "n level 0;drain m", longest + "3", strings.Repeat("a", 100000)} {
		x := full()
		for i, f := range leaves(&x) {
			if f.v.Kind() == reflect.String {
				expectNoText(t, "the name "+short(name), changed(func(x *api.Table) { leaves(x)[i].v.SetString(name) }))
			}
		}
	}
	for _, i := range lists()[1:] {
		name := reflect.TypeFor[api.Table]().Field(i).Name
		expectNoText(t, "many of "+name, crowd(name, 5000))
	}
}

// long is a table with full lists (but for zones) and long numbers, and with names of as many bytes as permitted, less some bytes in all.
func long(shorter int) api.Table {
	const c = -api.MaxCoord
	x := api.Table{Radius: 32768, Balls: 6, Rest: 15, Gravity: vec(-256, -256), Drag: 1000, Shift: 14, Trough: []int{10, 11, 12, 13, 14, 15}}
	n := 0
	name := func() string {
		n++
		size := max(4, api.MaxName-shorter)
		shorter -= api.MaxName - size
		return fmt.Sprintf("n%0*d", size-1, n)
	}
	for i := range api.MaxWalls {
		x.Walls = append(x.Walls, api.Wall{Name: name(), Kind: 3, A: vec(c, c), B: vec(c+i+1, c), Rest: 15, Grip: 15, Kick: 16384, Min: 16384, Coil: 31, Switch: 63})
	}
	for range api.MaxArcs {
		x.Arcs = append(x.Arcs, api.Arc{Name: name(), C: vec(c+65537, c), S: vec(c+2*65537, c), E: vec(c+65537, c+65537), Rest: 15, Grip: 15, Min: 16384, Switch: 63})
	}
	for range api.MaxPosts {
		x.Posts = append(x.Posts, api.Post{Name: name(), C: vec(c, c), Size: 1 << 18, Rest: 15, Grip: 15, Kick: 16384, Min: 16384, Coil: 31, Switch: 63})
	}
	for range api.MaxFlippers {
		x.Flippers = append(x.Flippers, api.Flipper{Name: name(), P: vec(c, c), Length: 32768, Mirror: true, Low: -256, High: -255, Up: 64, Down: 64, Max: 64, Rest: 15, Grip: 15, Coil: 31, Switch: 63})
	}
	for i := range api.MaxSaucers {
		x.Saucers = append(x.Saucers, api.Saucer{Name: name(), C: vec(c, c+20000*i), Size: 10000, Limit: 1 << 20, Out: vec(-16384, -16384), Coil: 31, Switch: 63})
	}
	for range api.MaxLanes {
		x.Lanes = append(x.Lanes, api.Lane{Name: name(), C: vec(c, c), Size: 1 << 18, Switch: 63})
	}
	for i := range api.MaxRamps {
		x.Ramps = append(x.Ramps, api.Ramp{Name: name(), To: 1, C: vec(c, c+i*200000), Size: 100000, Dir: vec(-16384, -16384)})
	}
	for range api.MaxDrains {
		x.Drains = append(x.Drains, api.Drain{Name: name(), C: vec(c, c), Size: 1 << 18})
	}
	for i := range api.MaxLaunchers {
		x.Launchers = append(x.Launchers, api.Launcher{Name: name(), At: vec(c, c+i*70000), V: vec(-16384, -16384), Coil: 31})
	}
	return x
}

// P9.3: texts at the limit of api.MaxText, and longer ones.
func TestTextTooLong(t *testing.T) {
	s, _ := layout.Text(long(1400))
	over := len(s) + 1400 - api.MaxText
	if s == "" || over <= 0 {
		t.Fatal("the test's table:", len(s), over)
	}
	for less := over; less < over+30; less++ {
		x := long(less)
		s, ok := layout.Text(x)
		if !ok || len(s) != api.MaxText+over-less {
			t.Fatal("a text of", api.MaxText+over-less, "bytes:", short(s), ok)
		}
		expectTable(t, s, x)
	}
	for less := range over {
		x := long(less)
		expectCheck(t, "a table with a long text", x, api.OK)
		expectNoText(t, "a table with a text that is too long", x)
	}
}
