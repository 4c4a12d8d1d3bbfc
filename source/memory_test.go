package source_test

import (
	"slices"
	"strings"
	"testing"
	"unsafe"

	"pinball/source"
)

// loose is s in memory that can be written to.
func loose(s string) (string, []byte) {
	b := []byte(s)
	return unsafe.String(unsafe.SliceData(b), len(b)), b
}

// spare is a copy of l with spare capacity, that is in use, in all of its slices.
func spare(l []source.Item) []source.Item {
	r := copied(l)
	for i, x := range r {
		for j, k := range x.Keys {
			x.Keys[j].Values = append(slices.Clip(k.Values), 77, 88)[:len(k.Values)]
		}
		r[i].Keys = append(slices.Clip(x.Keys), key("spare", 5, 6))[:len(x.Keys)]
	}
	return append(slices.Clip(r), item("spare", "s", 9, key("k", 1, 2)))[:len(l)]
}

// whole is a copy of what l holds, with all of its spare capacity.
func whole(l []source.Item) []source.Item {
	r := slices.Clone(l[:cap(l)])
	for i, x := range r {
		r[i].Keys = slices.Clone(x.Keys[:cap(x.Keys)])
		for j, k := range r[i].Keys {
			r[i].Keys[j].Values = slices.Clone(k.Values[:cap(k.Values)])
		}
	}
	return r
}

// overwrite writes into all slices of l, with their spare capacity.
func overwrite(l []source.Item) {
	l = l[:cap(l)]
	for _, x := range l {
		keys := x.Keys[:cap(x.Keys)]
		for _, k := range keys {
			fill(k.Values)
		}
		for j := range keys {
			keys[j] = key("over", -1, -2)
		}
	}
	for i := range l {
		l[i] = item("over", "o", -3)
	}
}

// fill writes into all of a slice of numbers, with its spare capacity.
func fill(l []int) {
	l = l[:cap(l)]
	for i := range l {
		l[i] = -99
	}
}

// texts have statements with keys of all arities.
var texts = []string{"", "table;", "post p center 3 4 size 2;", "flipper f mirror center 1 2 up 3;lane l;wall w from 0 1 to 2 3 level 4 min 5;", "table drag 1 2 radius 3 gravity 4 5 balls 6;\npost " + longest + " size 7;"}

// R3: statements do not lie in the memory of the text, which stays as it was.
func TestParseKeepsNoText(t *testing.T) {
	for _, text := range texts {
		s, memory := loose(text)
		want, _, _ := source.Parse(text)
		l, _, _ := source.Parse(s)
		if string(memory) != text {
			t.Error("Parse has changed", text)
		}
		for i := range memory {
			memory[i] = '9'
		}
		if !same(l, want) {
			t.Error("the statements of", text, "have changed with the text:", l)
		}
	}
}

// R3: results of two calls, and the slices of one result, do not reach each other, with their spare capacity.
func TestParseIsApart(t *testing.T) {
	for _, text := range texts {
		want, _, _ := source.Parse(text)
		l, _, _ := source.Parse(text)
		overwrite(l)
		expectParse(t, text, want...)
		l, _, _ = source.Parse(text)
		for i := range l {
			for j := range l[i].Keys {
				before := copied(l)
				fill(l[i].Keys[j].Values)
				copy(l[i].Keys[j].Values, want[i].Keys[j].Values)
				if !same(l, before) {
					t.Error("the values of a key reach other ones:", text)
				}
			}
			keys, before := slices.Clone(l[i].Keys), copied(l)
			_ = append(l[i].Keys, key("x", 1, 2), key("y", 3))
			clear(l[i].Keys[:cap(l[i].Keys)])
			copy(l[i].Keys, keys)
			if !same(l, before) {
				t.Error("the keys of a statement reach other ones:", text)
			}
		}
	}
}

// R3: Format and Get change nothing, also not in the spare capacity of slices, and do not look at it.
func TestArgumentsStay(t *testing.T) {
	for _, text := range texts {
		l, _, _ := source.Parse(text)
		bad := append(copied(l), item("wall", "w", 0, key("nokey", 0, 1)), item("post", "p", 0, key("size", 0, 1), key("size", 0, 2)))
		for _, a := range [][]source.Item{l, bad} {
			b := spare(a)
			before := whole(b)
			s, ok := source.Format(b)
			want, wantOK := written(a)
			if !wantOK {
				want = ""
			}
			if s != want || ok != wantOK {
				t.Error("Format depends on the spare capacity:", short(s), ok)
			}
			for _, x := range b {
				for _, k := range x.Keys {
					_, _ = source.Get(x, k.Key)
				}
				expectNoGet(t, x, "spare")
			}
			if !same(whole(b), before) {
				t.Error("an argument has changed:", text)
			}
		}
	}
}

// R3: the text of Format does not lie in the memory of the names.
func TestFormatKeepsNoName(t *testing.T) {
	word, memory := loose("wall")
	name, memory2 := loose("w")
	k, memory3 := loose("level")
	s, ok := source.Format([]source.Item{item(word, name, 0, key(k, 0, 5))})
	for _, m := range [][]byte{memory, memory2, memory3} {
		clear(m)
	}
	if s != "wall w level 5;\n" || !ok {
		t.Error("the text has changed with the names:", short(s), ok)
	}
}

// R3: values that Get returns are new memory.
func TestGetIsApart(t *testing.T) {
	for _, values := range [][]int{{}, {5}, {5, 6}, {5, 6, 7, 8, 9}} {
		full := append(slices.Clip(values), 77, 88)
		x := item("wall", "w", 0, source.Key{Key: "k", Values: full[:len(values)]})
		before := slices.Clone(full)
		l, _ := source.Get(x, "k")
		m, _ := source.Get(x, "k")
		fill(l)
		_ = append(l, 1, 2, 3)
		if !slices.Equal(full, before) || !slices.Equal(m, values) {
			t.Error("the values of Get share memory:", full, m)
		}
		fill(full)
		if !slices.Equal(m, before[:len(values)]) {
			t.Error("the values of Get have changed with the statement:", m)
		}
	}
}

// R5: a call does not depend on others before it, whether they had errors or not.
func TestNoState(t *testing.T) {
	for _, a := range append(texts, "x;", "post p size 5 size 5;", "post p", "5a", strings.Repeat("table;", most+1)) {
		for _, b := range texts {
			_, _, _ = source.Parse(a)
			expectParsed(t, b)
		}
	}
}
