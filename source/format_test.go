package source_test

import (
	"math"
	"math/rand/v2"
	"slices"
	"strings"
	"testing"

	"pinball/api"
	"pinball/source"
)

// P8.3: statements, each on a line of its own, wherever they stood.
func TestFormat(t *testing.T) {
	expectFormat(t, "")
	expectFormat(t, "", []source.Item{}...)
	expectFormat(t, "post p center 3 4 size 2;\n", item("post", "p", 0, key("center", 7, 3, 4), key("size", 18, 2)))
	expectFormat(t, "table;\n", item("table", "", 0))
	expectFormat(t, "wall w;\n", item("wall", "w", 0))
	expectFormat(t, "flipper f mirror;\n", item("flipper", "f", 0, key("mirror", 0)))
	expectFormat(t, "flipper mirror up 3 mirror down -2;\n", item("flipper", "mirror", 5, key("up", -1, 3), key("mirror", math.MaxInt), key("down", 7, -2)))
	expectFormat(t, "table radius 100 trough -1;\nwall w from 0 0 to 900 -20;\ntable;\n",
		item("table", "", math.MinInt, key("radius", 0, 100), key("trough", math.MinInt, -1)), item("wall", "w", 0, key("from", 9, 0, 0), key("to", 9, 900, -20)), item("table", "", -3))
	expectFormat(t, "drain d;\ndrain d;\n", item("drain", "d", 9), item("drain", "d", 0))
	expectFormat(t, "lane "+longest+" center 1073741824 -1073741824;\n", item("lane", longest, 1, key("center", 2, api.MaxNumber, -api.MaxNumber)))
	expectFormat(t, "wall table;\npost post;\n", item("wall", "table", 0), item("post", "post", 0))
}

// P8.3: nil and empty slices of keys and of values are written alike.
func TestFormatEmpty(t *testing.T) {
	for _, keys := range [][]source.Key{nil, {}} {
		expectFormat(t, "arc a;\ntable;\n", source.Item{Word: "arc", Name: "a", Keys: keys}, source.Item{Word: "table", Keys: keys})
	}
	for _, values := range [][]int{nil, {}} {
		expectFormat(t, "flipper f mirror;\n", item("flipper", "f", 0, source.Key{Key: "mirror", Values: values}))
		expectNoFormat(t, item("flipper", "f", 0, source.Key{Key: "up", Values: values}))
		expectNoFormat(t, item("flipper", "f", 0, source.Key{Key: "center", Values: values}))
	}
}

// P8.3: each word with all of its keys; too few and too many values of each key.
func TestFormatEveryKey(t *testing.T) {
	for _, r := range rows {
		x := item(r.word, nameOf(r.word), 0)
		bare := x
		for _, f := range r.keys {
			x.Keys = append(x.Keys, key(f.key, 0, values(f.arity)...))
			for n := range 5 {
				y := bare
				y.Keys = []source.Key{key(f.key, 0, []int{1, 0, -1, 5, 5}[:n]...)}
				expectWritten(t, y)
				if _, ok := source.Format([]source.Item{y}); ok != (n == f.arity) {
					t.Error("Format of", y, "is", ok)
				}
			}
		}
		expectWritten(t, x)
		slices.Reverse(x.Keys)
		expectWritten(t, x, bare, x)
		if _, ok := source.Format([]source.Item{x}); !ok {
			t.Error("no Format of", x)
		}
	}
}

// P8.3: statements whose text is not read as they are; each is alone, ahead of and behind good ones.
func TestNoFormat(t *testing.T) {
	good := item("post", "p", 0, key("size", 0, 3))
	huge := strings.Repeat("wall w;\n", 3000)
	bad := []source.Item{{}, {Name: "w"}, {Name: "wall"}, {Keys: []source.Key{key("level", 0, 1)}}, {Word: "wall"}, {Word: "table", Name: "t"}, {Word: "table", Name: "table"}, {Word: "table", Name: "level"}}
	for _, s := range []string{"", "x", "walls", "Wall", "wall ", " wall", "wall\n", "wall w;\nwall", "wall w; wall", "wall#", "# \nwall", "#", ";", "5", "level", "wall w", "wäll", "\xff", "wall;", huge, huge + "wall"} {
		bad = append(bad, item(s, "w", 0), item(s, "", 0), item(s, "w", 0, key("level", 0, 1)))
	}
	for _, s := range []string{"", "5", "-5", "5a", "A", "a_b", "a b", " a", "a ", "a\n", "\ta", "a;", ";", "a#", "#", "a#\n", "#\na", "a level 5", "a;\nwall b", "ä", "\xff", "\x00", longest + "3", strings.Repeat("a", 30000), huge} {
		bad = append(bad, item("wall", s, 0), item("wall", s, 0, key("level", 0, 1)), item("table", s+"x", 0))
	}
	for _, s := range []string{"", "x", "wall", "mirror", "size", "Level", "levels", "level ", " level", "level 5", "level#", "#", "#\nlevel", ";", "5", "grip 5 level", "lévél", "\xff", huge} {
		bad = append(bad, item("wall", "w", 0, key(s, 0, 1)), item("wall", "w", 0, key(s, 0)), item("wall", "w", 0, key("from", 0, 1, 2), key(s, 0, 1)))
	}
	for _, n := range []int{api.MaxNumber + 1, -api.MaxNumber - 1, 1 << 31, -1 << 31, 1<<32 + 5, 1 << 40, math.MaxInt, math.MinInt} {
		bad = append(bad, item("wall", "w", 0, key("level", 0, n)), item("wall", "w", 0, key("from", 0, n, 1)), item("wall", "w", 0, key("from", 0, 1, n)))
	}
	bad = append(bad, item("wall", "w", 0, key("level", 0, 1), key("level", 0, 1)), item("wall", "w", 0, key("level", 0, 1), key("to", 0, 1, 2), key("level", 0, 2)), item("flipper", "f", 0, key("mirror", 0), key("mirror", 1)),
		item("wall", "w", 0, key("from", 0, 1), key("", 0, 2)), item("wall", "", 0, key("w", 0)), item("wall", "", 0, key("w", 0), key("level", 0, 1)), item("wall", "w", 0, key("level", 0), key("5", 0)), item("wall", "w", 0, key("level 5 min", 0, 6)))
	for _, x := range bad {
		expectNoFormat(t, x)
		expectNoFormat(t, good, x)
		expectNoFormat(t, x, good)
		expectNoFormat(t, good, x, good)
	}
}

// P8.3: 400 statements and one more.
func TestFormatLimit(t *testing.T) {
	for _, x := range []source.Item{item("table", "", 0), item("lane", "l", 3, key("size", 4, 5))} {
		line, _ := written([]source.Item{x})
		l := slices.Repeat([]source.Item{x}, most)
		expectFormat(t, strings.Repeat(line, most), l...)
		expectNoFormat(t, append(l, x)...)
		expectNoFormat(t, slices.Repeat(l, 100)...)
	}
}

// P8.3: texts of exactly api.MaxText bytes and of one more, the longer one by any part of it.
func TestFormatSizes(t *testing.T) {
	x := item("wall", "w", 0, key("from", 0, 100000, 100000), key("to", 0, -10000, 99999), key("rest", 0, 1)) // 50 bytes with the line feed
	l := slices.Repeat([]source.Item{x}, most)
	if s, _ := written(l); len(s) != api.MaxText {
		t.Fatal("the test's text has", len(s), "bytes")
	}
	expectWritten(t, l...)
	expectWritten(t, l[1:]...)
	for _, i := range []int{0, 1, most / 2, most - 1} {
		for _, change := range []func(y *source.Item){
			func(y *source.Item) { y.Name = "w2" },
			func(y *source.Item) { y.Keys[0].Values[1] *= 10 },
			func(y *source.Item) { y.Keys[1].Values[1]++ },
			func(y *source.Item) { y.Keys[2].Values[0] = -1 },
			func(y *source.Item) { y.Word, y.Keys[0].Values[0] = "gate", 1000000 },
			func(y *source.Item) { y.Keys = append(y.Keys, key("min", 0, 1)) },
		} {
			longer := copied(l)
			change(&longer[i])
			expectNoFormat(t, longer...)
			longer[(i+7)%most].Keys[0].Values[0] = 10000
			if s, ok := written(longer); ok != (len(s) == api.MaxText) {
				t.Fatal("the test's text has", len(s), "bytes", ok)
			}
			expectWritten(t, longer...)
		}
	}
}

// P8.3, R1: lists whose text would be far too long need neither time nor memory for it.
func TestFormatGreat(t *testing.T) {
	long := strings.Repeat("w", 1<<24)
	keys := slices.Repeat([]source.Key{{Key: long}}, 1<<16)
	expectGreat := func(x source.Item) {
		if s, ok := source.Format(slices.Repeat([]source.Item{x}, 1<<16)); s != "" || ok {
			t.Error("Format of a great list is", len(s), ok)
		}
	}
	expectGreat(item("wall", long, 0))
	expectGreat(item(long, "w", 0))
	expectGreat(item("wall", "w", 0, keys...))
	expectGreat(item("wall", "w", 0, key("level", 0, make([]int, 1<<20)...)))
	expectGreat(item("wall", "w", 0, make([]source.Key, 1<<20)...))
	expectGreat(source.Item{})
}

// P8.3: random statements, with and without changes, against what the chapter permits.
func TestWritten(t *testing.T) {
	r := newRandom()
	for range 40000 {
		l := randomItems(r)
		expectWritten(t, l...)
		for i := range l {
			if r.IntN(2) == 0 {
				spoil(r, &l[i])
			}
		}
		expectWritten(t, l...)
	}
}

// spoil changes a part of a statement.
func spoil(r *rand.Rand, x *source.Item) {
	strange := []string{"", "x", "5", "a b", "table", "wall", "level", "size", "mirror", "A", longest + "3"}
	s := strange[r.IntN(len(strange))]
	switch r.IntN(4) {
	case 0:
		x.Word = s
		return
	case 1:
		x.Name = s
		return
	}
	if len(x.Keys) == 0 {
		x.Keys = append(x.Keys, key(s, 0))
		return
	}
	k := &x.Keys[r.IntN(len(x.Keys))]
	switch r.IntN(5) {
	case 0:
		k.Key = s
	case 1:
		k.Values = k.Values[:r.IntN(len(k.Values)+1)]
	case 2:
		k.Values = append(k.Values, randomNumber(r))
	case 3:
		k.Values = append(k.Values[:0], randomNumber(r)*(1+r.IntN(5)))
	default:
		x.Keys = append(x.Keys, *k)
	}
}

// P8.3: Format of what Parse returns has the same statements, however they were written.
func TestFormatOfParse(t *testing.T) {
	r := newRandom()
	for range 20000 {
		l, e, _ := source.Parse(randomText(r))
		if e == api.OK {
			want, _ := written(l)
			expectFormat(t, want, l...)
		}
	}
}
