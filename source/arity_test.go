package source_test

import (
	"strings"
	"testing"

	"pinball/source"
)

// P8.1: every word with every key, those of its row and those of others.
func TestArity(t *testing.T) {
	all := map[string]bool{}
	for _, keys := range arities {
		for k := range keys {
			all[k] = true
		}
	}
	if len(arities) != 14 || len(all) != 27 {
		t.Fatal("the test's table:", len(arities), len(all))
	}
	for word, keys := range arities {
		for k := range all {
			want, ok := keys[k]
			if !ok {
				want = -1
			}
			if n := source.Arity(word, k); n != want {
				t.Error("Arity of", word, k, "is", n, "instead of", want)
			}
		}
	}
}

// P8.1: words and keys that are in no row, and words and keys in the place of each other.
func TestNoArity(t *testing.T) {
	none := []string{"", " ", ";", "#", "0", "1", "-1", "5", "a", "w", "x1", "Table", "WALL", "tables", "wal", "walls", "Level", "LEVEL", "leve", "levels", "level 1", "level ", " level", "level\n", "from 2", "name", "y", "ball", "bumper", "kicker", "zones", "wall, gate", "wall gate", longest, "lével", "\xff", "level\x00", strings.Repeat("level", 100000)}
	for _, s := range none {
		for _, r := range rows {
			if n := source.Arity(r.word, s); n != -1 {
				t.Error("Arity of", r.word, short(s), "is", n)
			}
			for _, f := range r.keys {
				if n := source.Arity(s, f.key); n != -1 {
					t.Error("Arity of", short(s), f.key, "is", n)
				}
				if n := source.Arity(f.key, r.word); n != -1 {
					t.Error("Arity of", f.key, r.word, "is", n)
				}
			}
		}
		for _, u := range none {
			if n := source.Arity(s, u); n != -1 {
				t.Error("Arity of", short(s), short(u), "is", n)
			}
		}
	}
	for _, a := range rows {
		for _, b := range rows {
			if n := source.Arity(a.word, b.word); n != -1 {
				t.Error("Arity of", a.word, b.word, "is", n)
			}
			for _, f := range b.keys {
				if n := source.Arity(b.keys[0].key, f.key); n != -1 {
					t.Error("Arity of", b.keys[0].key, f.key, "is", n)
				}
			}
		}
	}
}
