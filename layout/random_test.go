package layout_test

import (
	"fmt"
	"math/rand/v2"
	"reflect"
	"slices"
	"strconv"
	"strings"
	"testing"

	"pinball/api"
	"pinball/layout"
)

// newRandom is a source of random numbers that are the same in each run.
func newRandom() *rand.Rand {
	return rand.New(rand.NewPCG(9, 9))
}

// within is a number from lo to hi, often one of them or one near 0.
func within(r *rand.Rand, lo, hi int) int {
	switch r.IntN(6) {
	case 0:
		return lo
	case 1:
		return hi
	case 2:
		return max(lo, min(r.IntN(20)-10, hi))
	}
	return lo + r.IntN(hi-lo+1)
}

// randomTable is a table, often a valid one: elements of the full table in other numbers, with other names and other numbers in
// their ranges. Places that others must keep away from stay what they are, and so do arcs.
func randomTable(r *rand.Rand) api.Table {
	x := full()
	kept := []string{"Arcs.C.X", "Arcs.C.Y", "Arcs.S.X", "Arcs.S.Y", "Arcs.E.X", "Arcs.E.Y", "Radius", "Balls", "Trough", "Saucers.Size", "Ramps.From", "Ramps.To", "Saucers.Level", "Launchers.Level", "Flippers.Max"}
	for i, f := range leaves(&x) {
		switch {
		case f.v.Kind() == reflect.String:
			f.v.SetString([]string{"wall", "z", "n", longest[:8]}[r.IntN(4)] + strconv.Itoa(i))
		case f.v.Kind() == reflect.Bool:
			f.v.SetBool(r.IntN(2) == 0)
		case !slices.Contains(kept, f.path):
			f.v.SetInt(int64(within(r, ranges[f.path][0], ranges[f.path][1])))
		}
	}
	for i := range x.Flippers { // both were chosen for the other one of the full table
		if f := &x.Flippers[i]; f.Low >= f.High {
			f.Low, f.High = -256, 256
		}
	}
	for _, i := range lists()[1:] {
		l := list(&x, i)
		reflect.Swapper(l.Interface())(r.IntN(l.Len()), r.IntN(l.Len()))
		l.SetLen(r.IntN(l.Len() + 1))
	}
	x.Balls = r.IntN(api.MaxBalls + 1)
	x.Trough = nil
	if first := within(r, -1, 57); x.Balls > 0 && r.IntN(2) == 0 {
		for i := range x.Balls {
			x.Trough = append(x.Trough, first+i*min(1, first+1))
		}
	}
	return x
}

// row is the statement of an element as the chapters write it: its keys are named in the order of its fields in words.
func row(word string, x any, keys string) string {
	v := reflect.ValueOf(x)
	s := word
	for _, k := range strings.Fields(keys) {
		key, field, _ := strings.Cut(k, ":")
		if key != "" {
			s += " " + key
		}
		s += " " + strings.Trim(fmt.Sprint(v.FieldByName(field)), "{}")
	}
	return s + ";\n"
}

// written is the text of a table that has one.
func written(x api.Table) string {
	s := row("table", x, "radius:Radius balls:Balls gravity:Gravity drag:Drag :Shift rest:Rest")
	if len(x.Trough) > 0 {
		s = s[:len(s)-2] + " trough " + strconv.Itoa(x.Trough[0]) + ";\n"
	}
	for _, e := range x.Walls {
		s += row([]string{"", "wall", "gate", "target", "sling"}[e.Kind], e, ":Name level:Level from:A to:B rest:Rest grip:Grip kick:Kick min:Min coil:Coil switch:Switch")
	}
	for _, e := range x.Arcs {
		s += row("arc", e, ":Name level:Level center:C from:S to:E rest:Rest grip:Grip min:Min switch:Switch")
	}
	for _, e := range x.Posts {
		s += row("post", e, ":Name level:Level center:C size:Size rest:Rest grip:Grip kick:Kick min:Min coil:Coil switch:Switch")
	}
	for _, e := range x.Flippers {
		f := row("flipper", e, ":Name level:Level center:P length:Length mirror:Mirror range:Low :High up:Up down:Down max:Max rest:Rest grip:Grip coil:Coil switch:Switch")
		s += strings.NewReplacer(" mirror true", " mirror", " mirror false", "").Replace(f)
	}
	for _, e := range x.Zones {
		s += row("zone", e, ":Name level:Level from:Lo to:Hi half:Half coil:Coil")
	}
	for _, e := range x.Saucers {
		s += row("saucer", e, ":Name level:Level center:C size:Size limit:Limit out:Out coil:Coil switch:Switch")
	}
	for _, e := range x.Lanes {
		s += row("lane", e, ":Name level:Level center:C size:Size switch:Switch")
	}
	for _, e := range x.Ramps {
		s += row("ramp", e, ":Name level:From into:To center:C size:Size dir:Dir")
	}
	for _, e := range x.Drains {
		s += row("drain", e, ":Name level:Level center:C size:Size")
	}
	for _, e := range x.Launchers {
		s += row("launcher", e, ":Name level:Level center:At out:V coil:Coil")
	}
	return s
}

// P9.3, P9.5: the texts of random tables; Compile of Text is the table, Mirror of Mirror is the table.
func TestRandomTables(t *testing.T) {
	r := newRandom()
	valid := 0
	for range 3000 {
		x := randomTable(r)
		expectMirror(t, x, mirrored(x))
		if layout.Check(x) == api.OK {
			valid++
			expectText(t, x, written(x))
			continue
		}
		expectNoText(t, "a table that is not valid", x)
	}
	if valid < 300 {
		t.Error("few of the test's tables are valid:", valid)
	}
}
