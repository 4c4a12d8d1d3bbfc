package source_test

import (
	"math"
	"slices"
	"testing"

	"pinball/source"
)

// expectGet checks that x has a key with these values.
func expectGet(t *testing.T, x source.Item, key string, want ...int) {
	t.Helper()
	if l, ok := source.Get(x, key); !slices.Equal(l, want) || !ok {
		t.Errorf("Get of %s and %s is %v %v instead of %v", few([]source.Item{x}), key, l, ok, want)
	}
}

// expectNoGet checks that x has no such key.
func expectNoGet(t *testing.T, x source.Item, key string) {
	t.Helper()
	if l, ok := source.Get(x, key); len(l) != 0 || ok {
		t.Errorf("Get of %s and %s is %v %v", few([]source.Item{x}), key, l, ok)
	}
}

// P8.4: keys that are there, with and without values, and keys that are not there.
func TestGet(t *testing.T) {
	x := item("flipper", "f", 0, key("center", 10, 3, 4), key("mirror", 3), key("up", 20, -7), key("down", 2, 0))
	expectGet(t, x, "center", 3, 4)
	expectGet(t, x, "mirror")
	expectGet(t, x, "up", -7)
	expectGet(t, x, "down", 0)
	for _, k := range []string{"", "level", "max", "flipper", "f", "cent", "centers", "Center", "center ", "3", "mirro", "u"} {
		expectNoGet(t, x, k)
		expectNoGet(t, item("flipper", "f", 0), k)
		expectNoGet(t, source.Item{Word: k, Name: k, Keys: []source.Key{}}, k)
	}
}

// P8.4: of keys with the same name the first one counts.
func TestGetFirst(t *testing.T) {
	x := item("post", "p", 0, key("size", 9, 1), key("level", 1, 5), key("size", 2, 2), key("rest", 0), key("rest", 3, 3), key("level", 0))
	expectGet(t, x, "size", 1)
	expectGet(t, x, "level", 5)
	expectGet(t, x, "rest")
	slices.Reverse(x.Keys)
	expectGet(t, x, "size", 2)
	expectGet(t, x, "level")
	expectGet(t, x, "rest", 3)
}

// P8.4: statements that no text has.
func TestGetOfAny(t *testing.T) {
	x := item("", "?", -1, key("", 0, 6), key("a b", 0, 1, 2, 3, 4), key("\xff", 0, math.MinInt, math.MaxInt), key("mirror", 0, 1))
	expectGet(t, x, "", 6)
	expectGet(t, x, "a b", 1, 2, 3, 4)
	expectGet(t, x, "\xff", math.MinInt, math.MaxInt)
	expectGet(t, x, "mirror", 1)
	expectNoGet(t, x, "a")
	for _, values := range [][]int{nil, {}} {
		expectGet(t, item("wall", "w", 0, source.Key{Key: "k", Values: values}), "k")
	}
	many := item("wall", "w", 0, slices.Repeat([]source.Key{key("a", 0, 1)}, 100000)...)
	expectNoGet(t, many, "b")
	many.Keys[99999] = key("b", 0, 9)
	expectGet(t, many, "b", 9)
}

// P8.4: the keys of what Parse returns.
func TestGetOfParse(t *testing.T) {
	r := newRandom()
	for range 3000 {
		l, _, _ := source.Parse(randomText(r))
		for _, x := range l {
			for _, k := range x.Keys {
				expectGet(t, x, k.Key, k.Values...)
			}
			expectNoGet(t, x, "wall")
		}
	}
}
