package source_test

import (
	"fmt"
	"math/rand/v2"
	"slices"
	"strconv"
	"strings"
	"testing"

	"pinball/api"
	"pinball/scan"
	"pinball/source"
)

// longest is a name of api.MaxName bytes.
const longest = "abcdefghij12"

// most is how many statements a text may have.
const most = 400

// chapter is the table of the chapter: words, and their keys with their arities.
const chapter = `
| table | radius 1, balls 1, gravity 2, drag 2, rest 1, trough 1 |
| wall, gate, target, sling | level 1, from 2, to 2, rest 1, grip 1, kick 1, min 1, coil 1, switch 1 |
| arc | level 1, center 2, from 2, to 2, rest 1, grip 1, min 1, switch 1 |
| post | level 1, center 2, size 1, rest 1, grip 1, kick 1, min 1, coil 1, switch 1 |
| flipper | level 1, center 2, length 1, mirror 0, range 2, up 1, down 1, max 1, rest 1, grip 1, coil 1, switch 1 |
| zone | level 1, from 2, to 2, half 2, coil 1 |
| saucer | level 1, center 2, size 1, limit 1, out 2, coil 1, switch 1 |
| lane | level 1, center 2, size 1, switch 1 |
| ramp | level 1, into 1, center 2, size 1, dir 2 |
| drain | level 1, center 2, size 1 |
| launcher | level 1, center 2, out 2, coil 1 |
`

// row is a word of the table with its keys.
type row struct {
	word string
	keys []field
}

// field is a key of a word with its arity.
type field struct {
	key   string
	arity int
}

// rows are the words of the chapter's table; arities are the arities of the keys of each of them.
var (
	rows    = readRows()
	arities = readArities()
)

// readRows reads the chapter's table.
func readRows() []row {
	var l []row
	for _, line := range strings.Split(strings.TrimSpace(chapter), "\n") {
		cells := strings.Split(strings.Trim(line, "| "), " | ")
		var keys []field
		for _, s := range strings.Split(cells[1], ", ") {
			key, n, _ := strings.Cut(s, " ")
			arity, e := strconv.Atoi(n)
			if e != nil {
				panic("the test's table")
			}
			keys = append(keys, field{key, arity})
		}
		for _, word := range strings.Split(cells[0], ", ") {
			l = append(l, row{word, keys})
		}
	}
	return l
}

// readArities reads the arities of the keys of each word.
func readArities() map[string]map[string]int {
	m := map[string]map[string]int{}
	for _, r := range readRows() {
		m[r.word] = map[string]int{}
		for _, f := range r.keys {
			m[r.word][f.key] = f.arity
		}
	}
	return m
}

// nameOf is the name of a statement with this word, "" if it must not have one.
func nameOf(word string) string {
	if word == "table" {
		return ""
	}
	return "n"
}

// opened is the beginning of a statement with this word, up to its keys.
func opened(word string) string {
	return strings.TrimSpace(word + " " + nameOf(word))
}

// filled is a key with all of its numbers.
func filled(f field) string {
	return f.key + strings.Repeat(" 3", f.arity)
}

// values are the numbers of a key of this arity.
func values(arity int) []int {
	return []int{-7, 88}[:arity]
}

// key is a key at an offset.
func key(name string, at int, values ...int) source.Key {
	return source.Key{Key: name, Values: values, At: at}
}

// item is a statement at an offset.
func item(word, name string, at int, keys ...source.Key) source.Item {
	return source.Item{Word: word, Name: name, Keys: keys, At: at}
}

// same reports whether two lists of statements are equal; nil and empty slices are.
func same(a, b []source.Item) bool {
	return slices.EqualFunc(a, b, func(x, y source.Item) bool {
		return x.Word == y.Word && x.Name == y.Name && x.At == y.At && slices.EqualFunc(x.Keys, y.Keys, func(k, l source.Key) bool {
			return k.Key == l.Key && slices.Equal(k.Values, l.Values) && k.At == l.At
		})
	})
}

// anywhere are the statements of l without their offsets.
func anywhere(l []source.Item) []source.Item {
	r := copied(l)
	for i := range r {
		r[i].At = 0
		for j := range r[i].Keys {
			r[i].Keys[j].At = 0
		}
	}
	return r
}

// copied is a copy of l that shares no memory with it.
func copied(l []source.Item) []source.Item {
	r := slices.Clone(l)
	for i := range r {
		r[i].Keys = slices.Clone(r[i].Keys)
		for j := range r[i].Keys {
			r[i].Keys[j].Values = slices.Clone(r[i].Keys[j].Values)
		}
	}
	return r
}

// expectParse checks that s has the statements of want.
func expectParse(t *testing.T, s string, want ...source.Item) {
	t.Helper()
	l, e, at := source.Parse(s)
	if !same(l, want) || e != api.OK || at != 0 {
		t.Errorf("Parse of %s is %v %v %v instead of %v", short(s), few(l), e, at, few(want))
	}
}

// expectError checks that Parse of s returns an error, its offset and nothing else.
func expectError(t *testing.T, s string, want api.Errno, offset int) {
	t.Helper()
	l, e, at := source.Parse(s)
	if len(l) != 0 || e != want || at != offset {
		t.Errorf("Parse of %s is %v %v %v instead of the error %v at %v", short(s), few(l), e, at, want, offset)
	}
}

// expectFormat checks that the text of the statements of l is want, and that it is read as these statements.
func expectFormat(t *testing.T, want string, l ...source.Item) {
	t.Helper()
	s, ok := source.Format(l)
	if s != want || !ok {
		t.Errorf("Format of %d statements is %s %v instead of %s", len(l), short(s), ok, short(want))
	}
	if read, e, _ := source.Parse(s); !same(anywhere(read), anywhere(l)) || e != api.OK {
		t.Errorf("Parse of %s is %v %v instead of %v", short(s), few(read), e, few(l))
	}
}

// expectNoFormat checks that there is no text of the statements of l.
func expectNoFormat(t *testing.T, l ...source.Item) {
	t.Helper()
	if s, ok := source.Format(l); s != "" || ok {
		t.Errorf("Format of %d statements, %v, is %s %v", len(l), few(l), short(s), ok)
	}
}

// short is s in quotes, cut if it is long.
func short(s string) string {
	if len(s) > 300 {
		return strconv.Quote(s[:80]) + ".. of " + strconv.Itoa(len(s)) + " bytes"
	}
	return strconv.Quote(s)
}

// few are the first statements of l, as a text.
func few(l []source.Item) string {
	s := fmt.Sprint(l)
	return s[:min(len(s), 300)]
}

// parsed is what Parse returns: word by word, with what must stand there.
func parsed(s string) (l []source.Item, e api.Errno, at int) {
	words, e, at := scan.Words(s)
	if e != api.OK {
		return nil, e, at
	}
	twice := map[string]bool{}
	begins, name, numbers := true, false, 0
	for _, w := range words {
		i := len(l) - 1
		switch {
		case begins && len(l) == most:
			return nil, api.ErrLimit, w.At
		case begins && arities[w.Text] != nil:
			l = append(l, item(w.Text, "", w.At))
			begins, name, twice = false, w.Text != "table", map[string]bool{}
		case begins:
			return nil, api.ErrSyntax, w.At
		case name && w.Kind == scan.KindName:
			l[i].Name, name = w.Text, false
		case numbers > 0 && w.Kind == scan.KindNumber:
			j := len(l[i].Keys) - 1
			l[i].Keys[j].Values = append(l[i].Keys[j].Values, w.Number)
			numbers--
		case name || numbers > 0:
			return nil, api.ErrSyntax, w.At
		case w.Kind == scan.KindEnd:
			begins = true
		default:
			n, ok := arities[l[i].Word][w.Text]
			if !ok {
				return nil, api.ErrSyntax, w.At
			}
			if twice[w.Text] {
				return nil, api.ErrDuplicate, w.At
			}
			l[i].Keys = append(l[i].Keys, key(w.Text, w.At))
			twice[w.Text], numbers = true, n
		}
	}
	if !begins {
		return nil, api.ErrSyntax, len(s)
	}
	return l, api.OK, 0
}

// expectParsed checks that Parse returns for s what its words say one after another.
func expectParsed(t *testing.T, s string) {
	t.Helper()
	want, e, at := parsed(s)
	if e != api.OK {
		expectError(t, s, e, at)
		return
	}
	expectParse(t, s, want...)
}

// written is the text of the statements of l, and whether all of them are as the chapter permits.
func written(l []source.Item) (string, bool) {
	var text strings.Builder
	ok := len(l) <= most
	for _, x := range l {
		words, keys := []string{x.Word}, map[string]bool{}
		if x.Word != "table" {
			words = append(words, x.Name)
		}
		ok = ok && arities[x.Word] != nil && (x.Word == "table" && x.Name == "" || x.Word != "table" && scan.Name(x.Name))
		for _, k := range x.Keys {
			n, known := arities[x.Word][k.Key]
			ok = ok && known && n == len(k.Values) && !keys[k.Key]
			keys[k.Key] = true
			words = append(words, k.Key)
			for _, v := range k.Values {
				ok = ok && -api.MaxNumber <= v && v <= api.MaxNumber
				words = append(words, strconv.Itoa(v))
			}
		}
		text.WriteString(strings.Join(words, " ") + ";\n")
	}
	return text.String(), ok && text.Len() <= api.MaxText
}

// expectWritten checks that Format returns for l what the chapter permits.
func expectWritten(t *testing.T, l ...source.Item) {
	t.Helper()
	if want, ok := written(l); ok {
		expectFormat(t, want, l...)
		return
	}
	expectNoFormat(t, l...)
}

// newRandom is a source of random numbers that are the same in each run.
func newRandom() *rand.Rand {
	return rand.New(rand.NewPCG(8, 8))
}

// randomNumber is a number that a text may have, often a small one.
func randomNumber(r *rand.Rand) int {
	return (r.IntN(api.MaxNumber+1) >> r.IntN(31)) * (1 - 2*r.IntN(2))
}

// randomItem is a statement as Parse returns it, with any offsets.
func randomItem(r *rand.Rand) source.Item {
	from := rows[r.IntN(len(rows))]
	x := item(from.word, "", r.IntN(2000)-1000)
	if x.Word != "table" {
		names := []string{"a", "p1", longest, longest[:1+r.IntN(api.MaxName)], "table", "wall", "mirror", "level"}
		x.Name = names[r.IntN(len(names))]
	}
	for _, i := range r.Perm(len(from.keys))[:r.IntN(len(from.keys)+1)] {
		k := key(from.keys[i].key, r.IntN(2000)-1000)
		for range from.keys[i].arity {
			k.Values = append(k.Values, randomNumber(r))
		}
		x.Keys = append(x.Keys, k)
	}
	return x
}

// randomItems are a few statements.
func randomItems(r *rand.Rand) []source.Item {
	var l []source.Item
	for range r.IntN(4) {
		l = append(l, randomItem(r))
	}
	return l
}
