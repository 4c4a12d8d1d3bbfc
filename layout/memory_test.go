package layout_test

import (
	"reflect"
	"testing"
	"unsafe"

	"pinball/api"
	"pinball/layout"
)

// loose is s in memory that can be written to.
func loose(s string) (string, []byte) {
	b := []byte(s)
	return unsafe.String(unsafe.SliceData(b), len(b)), b
}

// spare is a copy of t with spare capacity, that is in use, in all of its lists.
func spare(t api.Table) api.Table {
	for _, i := range lists() {
		l := list(&t, i)
		r := reflect.MakeSlice(l.Type(), l.Len()+3, l.Len()+3)
		reflect.Copy(r, l)
		for j := l.Len(); j < r.Len() && l.Len() > 0; j++ {
			r.Index(j).Set(l.Index(0))
		}
		l.Set(r.Slice(0, l.Len()))
	}
	return t
}

// whole is a copy of what t holds, with all of its spare capacity.
func whole(t api.Table) api.Table {
	for _, i := range lists() {
		l := list(&t, i)
		l.Set(l.Slice(0, l.Cap()))
	}
	return copied(t)
}

// overwrite writes into all lists of t, with their spare capacity.
func overwrite(t api.Table) {
	for _, i := range lists() {
		l := list(&t, i)
		l = l.Slice(0, l.Cap())
		for j := range l.Len() {
			l.Index(j).SetZero()
		}
	}
}

// tables are some tables, valid and not.
func tables() []api.Table {
	l := []api.Table{full(), plain(), {}, long(1400), long(0)}
	for _, c := range wrongs() {
		l = append(l, changed(c.change))
	}
	return l
}

// R3: arguments stay as they were, and their spare capacity does not matter.
func TestArgumentsStay(t *testing.T) {
	for i, x := range tables() {
		y := spare(x)
		before := whole(y)
		if layout.Check(y) != layout.Check(x) || !layout.Same(x, y) || !layout.Same(y, x) {
			t.Error("the spare capacity of table", i, "matters")
		}
		s, ok := layout.Text(y)
		if want, wantOK := layout.Text(x); s != want || ok != wantOK {
			t.Error("Text of table", i, "depends on its spare capacity")
		}
		if !equal(layout.Shift(y, vec(3, 4)), moved(x, vec(3, 4))) || !equal(layout.Mirror(y), mirrored(x)) {
			t.Error("the spare capacity of table", i, "is shifted or mirrored")
		}
		if !equal(whole(y), before) {
			t.Error("table", i, "has changed")
		}
	}
}

// R3: who writes into a result changes neither the argument nor another result, and the other way round.
func TestResultsAreApart(t *testing.T) {
	for i, x := range tables() {
		for name, f := range map[string]func(api.Table) api.Table{
			"Shift":  func(x api.Table) api.Table { return layout.Shift(x, vec(0, 0)) },
			"Mirror": layout.Mirror,
		} {
			y := spare(x)
			before := whole(y)
			a, b := f(y), f(y)
			want := copied(b)
			overwrite(a)
			if !equal(whole(y), before) || !equal(b, want) {
				t.Error("a result of", name, "shares memory with table", i)
			}
			overwrite(y)
			if !equal(b, want) {
				t.Error("table", i, "shares memory with a result of", name)
			}
		}
	}
}

// R3: tables that are compiled from one text share no memory with each other.
func TestCompiledApart(t *testing.T) {
	a, b := compiled(t, fullText), compiled(t, fullText)
	overwrite(a)
	if !equal(b, full()) {
		t.Error("two tables of one text share memory")
	}
	expectTable(t, fullText, full())
}

// R3: names do not lie in the memory of the text, nor of the names of the argument.
func TestNamesAreKept(t *testing.T) {
	s, memory := loose(fullText)
	x := compiled(t, s)
	if string(memory) != fullText {
		t.Error("Compile has changed its text")
	}
	clear(memory)
	if !equal(x, full()) {
		t.Error("the names of a table have changed with its text")
	}
	var memories [][]byte
	y := full()
	for _, f := range leaves(&y) {
		if f.v.Kind() == reflect.String {
			name, memory := loose(f.v.String())
			f.v.SetString(name)
			memories = append(memories, memory)
		}
	}
	text, _ := layout.Text(y)
	shifted, mirror := layout.Shift(y, vec(1, 2)), layout.Mirror(y)
	for _, m := range memories {
		clear(m)
	}
	if text != fullText || !equal(shifted, moved(full(), vec(1, 2))) || !equal(mirror, mirrored(full())) {
		t.Error("a result has changed with the names of its argument")
	}
}
