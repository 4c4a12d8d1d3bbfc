package source_test

import (
	"fmt"
	"math/rand/v2"
	"slices"
	"strings"
	"testing"

	"pinball/api"
	"pinball/source"
)

// P8.2: texts with one statement and with several, and their offsets.
func TestParse(t *testing.T) {
	expectParse(t, "post p center 3 4 size 2;", item("post", "p", 0, key("center", 7, 3, 4), key("size", 18, 2)))
	expectParse(t, "wall w from 0 0 to 900 -20;", item("wall", "w", 0, key("from", 7, 0, 0), key("to", 16, 900, -20)))
	expectParse(t, "flipper f mirror up 3;", item("flipper", "f", 0, key("mirror", 10), key("up", 17, 3)))
	expectParse(t, "table radius 100 balls 2 trough 5; wall w from 0 0 to 900 0;",
		item("table", "", 0, key("radius", 6, 100), key("balls", 17, 2), key("trough", 25, 5)),
		item("wall", "w", 35, key("from", 42, 0, 0), key("to", 51, 900, 0)))
	expectParse(t, "drain a;drain b;drain a;", item("drain", "a", 0), item("drain", "b", 8), item("drain", "a", 16))
	expectParse(t, "# all\n\ttable;\n# more\n  lane l # a lane\n\tsize 5#7\n; # end", item("table", "", 7), item("lane", "l", 23, key("size", 40, 5)))
	expectParse(t, "wall#1\nw#2\nfrom#3\n1#4\n2#5\nto-3-4;", item("wall", "w", 0, key("from", 11, 1, 2), key("to", 26, -3, -4)))
	expectParse(t, "table radius 007 drag -0 1073741824 gravity -1073741824 -05;", item("table", "", 0, key("radius", 6, 7), key("drag", 17, 0, api.MaxNumber), key("gravity", 36, -api.MaxNumber, -5)))
	expectParse(t, " post "+longest+" ; ", item("post", longest, 1))
}

// P8.2: texts without statements.
func TestNoStatements(t *testing.T) {
	for _, s := range []string{"", " ", "\n", " \t\n", "#", "# table;", "#\n# wall w;\n", strings.Repeat(" ", api.MaxText), "#" + strings.Repeat(";", api.MaxText-1)} {
		expectParse(t, s)
	}
}

// P8.2: each word without keys, with each of its keys alone and with all of them, in any order.
func TestEveryKey(t *testing.T) {
	random := newRandom()
	for _, r := range rows {
		begin, name := opened(r.word), nameOf(r.word)
		expectParse(t, begin+";", item(r.word, name, 0))
		for _, f := range r.keys {
			s := begin + " " + f.key
			for _, n := range values(f.arity) {
				s += fmt.Sprint(" ", n)
			}
			at := len(begin) + 1
			expectParse(t, s+";", item(r.word, name, 0, key(f.key, at, values(f.arity)...)))
			expectParse(t, "\n"+s+" ;"+s+";", item(r.word, name, 1, key(f.key, at+1, values(f.arity)...)),
				item(r.word, name, len(s)+3, key(f.key, len(s)+at+3, values(f.arity)...)))
		}
		expectAllKeys(t, r.word, r.keys)
		for range 20 {
			l := slices.Clone(r.keys)
			random.Shuffle(len(l), func(i, j int) { l[i], l[j] = l[j], l[i] })
			expectAllKeys(t, r.word, l)
		}
	}
}

// expectAllKeys checks a statement with these keys, all of whose numbers are different.
func expectAllKeys(t *testing.T, word string, keys []field) {
	t.Helper()
	s, want := opened(word), item(word, nameOf(word), 0)
	for i, f := range keys {
		k := key(f.key, len(s)+1)
		s += " " + f.key
		for j := range f.arity {
			s += fmt.Sprint(" ", 10*i+j)
			k.Values = append(k.Values, 10*i+j)
		}
		want.Keys = append(want.Keys, k)
	}
	expectParse(t, s+";", want)
}

// P8.2: names that are words or keys, of any row.
func TestNamesLikeWords(t *testing.T) {
	for _, r := range rows {
		for _, name := range append([]field{{r.word, 0}}, r.keys...) {
			n := name.key
			expectParse(t, "post "+n+";", item("post", n, 0))
			expectParse(t, "wall "+n+" level 3;", item("wall", n, 0, key("level", 6+len(n), 3)))
			expectParse(t, "flipper "+n+" mirror;", item("flipper", n, 0, key("mirror", 9+len(n))))
		}
	}
	expectParse(t, "post level level 5;", item("post", "level", 0, key("level", 11, 5)))
	expectParse(t, "flipper mirror mirror;", item("flipper", "mirror", 0, key("mirror", 15)))
	expectParse(t, "wall wall;", item("wall", "wall", 0))
	expectParse(t, "wall table;table;", item("wall", "table", 0), item("table", "", 11))
}

// P8.2: a key that occurs once in each of several statements.
func TestKeysOfSeveralStatements(t *testing.T) {
	expectParse(t, "post a size 1; post b size 2;", item("post", "a", 0, key("size", 7, 1)), item("post", "b", 15, key("size", 22, 2)))
	expectParse(t, "post a size 1; post a size 1;", item("post", "a", 0, key("size", 7, 1)), item("post", "a", 15, key("size", 22, 1)))
	expectParse(t, "flipper a mirror;flipper b mirror;", item("flipper", "a", 0, key("mirror", 10)), item("flipper", "b", 17, key("mirror", 27)))
	expectParse(t, "table rest 1;table rest 2;", item("table", "", 0, key("rest", 6, 1)), item("table", "", 13, key("rest", 19, 2)))
}

// P8.2: 400 statements, of several words, with anything but words behind them.
func TestMostStatements(t *testing.T) {
	for _, one := range []string{"table;", "post p;", "lane l size 5 ;\n", "flipper f mirror up 2; #\n"} {
		var want []source.Item
		for i := range most {
			l, _, _ := parsed(one)
			x := l[0]
			x.At = i * len(one)
			for j := range x.Keys {
				x.Keys[j].At += x.At
			}
			want = append(want, x)
		}
		for _, behind := range []string{"", " ", "\n", "# table;", "\n#\n"} {
			expectParse(t, strings.Repeat(one, most)+behind, want...)
		}
		expectParse(t, strings.Repeat(one, most-1), want[:most-1]...)
	}
}

// P8.2: random texts, with and without errors, against the words taken one after another.
func TestParsed(t *testing.T) {
	r := newRandom()
	good := 0
	for range 60000 {
		s := randomText(r)
		if _, e, _ := parsed(s); e == api.OK {
			good++
		}
		expectParsed(t, s)
	}
	if good < 15000 || good > 45000 {
		t.Error("of the random texts", good, "have no error")
	}
}

// randomText is the text of a few statements with gaps of all kinds, half the time with a few words changed.
func randomText(r *rand.Rand) string {
	s, _ := written(randomItems(r))
	words := strings.Fields(strings.ReplaceAll(s, ";", " ;"))
	if r.IntN(2) == 0 {
		for range r.IntN(3) {
			words = changed(r, words)
		}
	}
	gaps := []string{" ", " ", "\n", "\t ", " # no; - 5a\n", "#\n"}
	var text strings.Builder
	for _, w := range words {
		if w != ";" || r.IntN(3) == 0 {
			text.WriteString(gaps[r.IntN(len(gaps))])
		}
		text.WriteString(w)
	}
	if r.IntN(3) == 0 {
		text.WriteString(gaps[r.IntN(len(gaps))])
	}
	return text.String()
}

// changed is a list of words with one of them removed, doubled, moved or replaced, or with one more.
func changed(r *rand.Rand, words []string) []string {
	others := []string{";", ";", "0", "-5", "7", "a", "post", "table", "wall", "level", "size", "mirror", "from", "coil", "rest", "x", longest, "-", "5a", longest + "3", "1073741825"}
	other := others[r.IntN(len(others))]
	if len(words) == 0 {
		return []string{other}
	}
	i, j := r.IntN(len(words)), r.IntN(len(words))
	l := append([]string{}, words...)
	switch r.IntN(6) {
	case 0:
		return append(l[:i], words[i+1:]...)
	case 1:
		return append(append(l[:i], words[i]), words[i:]...)
	case 2:
		l[i], l[j] = l[j], l[i]
	case 3:
		l[i] = other
	case 4:
		return append(append(l[:i], other), words[i:]...)
	default:
		return append(append(l[:i], words[j]), words[i:]...)
	}
	return l
}
