package source_test

import (
	"fmt"
	"strings"
	"testing"

	"pinball/api"
	"pinball/scan"
)

// strangers are names that are keys of no row.
func strangers() []string {
	l := []string{"x", "n", "levels", "leve", "mirror1", longest}
	for _, r := range rows {
		l = append(l, r.word)
	}
	return l
}

// P8.2: texts that end behind each word of a statement but the last one.
func TestEnds(t *testing.T) {
	for _, before := range []string{"", "table;", "# a\npost p size 5;\n", strings.Repeat("drain d;", most-1)} {
		for _, s := range []string{"wall w from 1 2 to 3 4 ;", "flipper f mirror center 3 4 up 5 ;", "table gravity 0 -5 balls 2 ;", "drain d ;", "table ;"} {
			words := strings.Fields(s)
			for n := range len(words) {
				for _, behind := range []string{"", " ", "\n\t", "#", " # ;\n", "# ; post", "\n#\n#\n "} {
					text := before + strings.Join(words[:n], " ") + behind
					if n > 0 {
						expectError(t, text, api.ErrSyntax, len(text))
					}
				}
			}
			for n := range len(s) {
				expectParsed(t, before+s[:n])
			}
		}
	}
	full := "post p" + strings.Repeat(" ", api.MaxText-6)
	expectError(t, full, api.ErrSyntax, api.MaxText)
}

// P8.2: what is no word of the table at the beginning of a statement.
func TestBeginnings(t *testing.T) {
	l := []string{";", "0", "-5", "x", "walls", "wal", "tables", "bumper", longest}
	for _, r := range rows {
		for _, f := range r.keys {
			l = append(l, f.key)
		}
	}
	for _, w := range l {
		for _, before := range []string{"", " ", "table;", "#\npost p size 5 ;\n", "wall wall;"} {
			for _, behind := range []string{"", ";", " ;", " n;", " 5;", " n size 5;", " ;table;"} {
				expectError(t, before+w+behind, api.ErrSyntax, len(before))
			}
		}
	}
}

// P8.2: what is no name behind a word, and names behind the word table.
func TestNames(t *testing.T) {
	for _, r := range rows {
		for _, w := range []string{";", "5", "-5"} {
			if r.word != "table" {
				expectError(t, r.word+" "+w, api.ErrSyntax, len(r.word)+1)
				expectError(t, "table;"+r.word+" "+w+" n;", api.ErrSyntax, len(r.word)+7)
			}
		}
		expectError(t, "table "+r.word+";", api.ErrSyntax, 6)
	}
	for _, w := range []string{"t", "n", "a1", longest, "level", "5", "-5"} {
		expectError(t, "table "+w+";", api.ErrSyntax, 6)
		expectError(t, "table;table "+w+" radius 5;", api.ErrSyntax, 12)
	}
	expectError(t, "wall w w;", api.ErrSyntax, 7)
	expectError(t, "wall level 5;", api.ErrSyntax, 11)
	expectError(t, "wall from 0 0 to 9 0;", api.ErrSyntax, 10)
	expectError(t, "flipper mirror up;", api.ErrSyntax, 17)
}

// P8.2: what is no key of the word, directly behind the name and behind each key.
func TestKeys(t *testing.T) {
	expectError(t, "wall w mirror;", api.ErrSyntax, 7)
	all := map[string]int{}
	for _, r := range rows {
		for _, f := range r.keys {
			all[f.key] = f.arity
		}
	}
	for _, r := range rows {
		begin := opened(r.word)
		for k, n := range all {
			if _, ok := arities[r.word][k]; ok {
				continue
			}
			expectError(t, begin+" "+filled(field{k, n})+";", api.ErrSyntax, len(begin)+1)
			for _, f := range r.keys {
				s := begin + " " + filled(f) + " "
				expectError(t, s+filled(field{k, n})+";", api.ErrSyntax, len(s))
			}
		}
		for _, w := range append(strangers(), "0", "-5", "1073741824") {
			for _, behind := range []string{";", " ;", "", " 5;", " " + filled(r.keys[0]) + ";"} {
				expectError(t, begin+" "+w+behind, api.ErrSyntax, len(begin)+1)
			}
		}
	}
}

// P8.2: keys with too few numbers behind them, whatever stands there, and with too many.
func TestArities(t *testing.T) {
	for _, r := range rows {
		for _, f := range r.keys {
			s := opened(r.word) + " " + f.key
			for range f.arity {
				for _, w := range append(strangers(), ";", f.key, r.keys[0].key, "level") {
					expectError(t, s+" "+w, api.ErrSyntax, len(s)+1)
					expectError(t, s+" "+w+" 5 6;", api.ErrSyntax, len(s)+1)
				}
				expectError(t, s, api.ErrSyntax, len(s))
				s += " -4"
			}
			for _, w := range []string{"0", "-5", "007"} {
				expectError(t, s+" "+w+";", api.ErrSyntax, len(s)+1)
				expectError(t, s+" "+w, api.ErrSyntax, len(s)+1)
			}
		}
	}
}

// P8.2: keys that a statement has twice, directly behind one another and with others between them.
func TestDuplicates(t *testing.T) {
	expectError(t, "flipper f mirror mirror;", api.ErrDuplicate, 17)
	expectError(t, "post p size 5 size 5;", api.ErrDuplicate, 14)
	expectError(t, "table rest 1;post p rest 1 rest 1;", api.ErrDuplicate, 27)
	for _, r := range rows {
		for i, f := range r.keys {
			s := opened(r.word) + " " + filled(f) + " "
			for _, behind := range []string{"", ";", " 5;", " 5 6;", " -1 -2 -3", " x", " " + f.key} {
				expectError(t, s+f.key+behind, api.ErrDuplicate, len(s))
			}
			for _, g := range append(r.keys[:i:i], r.keys[i+1:]...) {
				s += filled(g) + " "
				expectError(t, s+filled(f)+";", api.ErrDuplicate, len(s))
			}
			expectError(t, "drain d;"+s+filled(f)+";", api.ErrDuplicate, len(s)+8)
		}
	}
}

// P8.2: the errors of scan.Words come ahead of all others, wherever they stand.
func TestScanErrors(t *testing.T) {
	texts := []string{"", "table;", "post p size 5;", "x;", ";", "5", "wall;", "table t;", "wall w mirror;", "post p size;", "post p size 5 size 5;", "post p", "post p size", strings.Repeat("table;", most+1)}
	for _, bad := range []string{"- 5", "5a", "A", "\r", "\xff", "-", longest + "3", "1073741825", "-99999999999999999999"} {
		_, e, at := scan.Words(bad)
		for _, before := range texts {
			for _, behind := range texts {
				expectError(t, before+" "+bad+" "+behind, e, len(before)+1+at)
			}
		}
	}
	for _, s := range texts {
		expectError(t, s+strings.Repeat(" ", api.MaxText+1-len(s)), api.ErrSize, 0)
		expectError(t, strings.Repeat("-", api.MaxText)+s+";", api.ErrSize, 0)
	}
}

// P8.2: of two errors the first one in the text is returned.
func TestFirstError(t *testing.T) {
	errors := []struct {
		s  string
		e  api.Errno
		at int
	}{
		{"x;", api.ErrSyntax, 0}, {"5;", api.ErrSyntax, 0}, {";", api.ErrSyntax, 0}, {"wall;", api.ErrSyntax, 4}, {"wall 5;", api.ErrSyntax, 5}, {"table t;", api.ErrSyntax, 6},
		{"wall w mirror;", api.ErrSyntax, 7}, {"post p size;", api.ErrSyntax, 11}, {"post p size 5 6;", api.ErrSyntax, 14}, {"post p size size;", api.ErrSyntax, 12},
		{"post p size 5 size 5;", api.ErrDuplicate, 14}, {"flipper f mirror mirror;", api.ErrDuplicate, 17},
	}
	for _, a := range errors {
		for _, b := range errors {
			expectError(t, a.s+b.s, a.e, a.at)
			expectError(t, "drain d size 5;"+a.s+" "+b.s, a.e, a.at+15)
		}
	}
	expectError(t, "post p size 5 size x", api.ErrDuplicate, 14)
	expectError(t, "post p size 5 x size 5;", api.ErrSyntax, 14)
	expectError(t, "post p size 5 center 3 size 5;", api.ErrSyntax, 23)
	expectError(t, "flipper f up up up;", api.ErrSyntax, 13)
}

// P8.2: whatever stands behind 400 statements, ErrLimit is returned with its offset, if nothing is wrong ahead of it.
func TestLimit(t *testing.T) {
	for _, one := range []string{"table;", "post p size 5 ;\n"} {
		for _, gap := range []string{"", " ", "\n# a\n"} {
			full := strings.Repeat(one, most) + gap
			for _, behind := range []string{"table;", "post p;", "post", "x", ";", "5", "-5 x;", "level 5;", "table t;", "wall;", "wall w mirror;", "post p size;", "post p size 5 size 5;", strings.Repeat("drain d;", most)} {
				expectError(t, full+behind, api.ErrLimit, len(full))
				expectError(t, full+behind+"# x", api.ErrLimit, len(full))
				expectParsed(t, full[len(one):]+behind)
			}
			expectError(t, "x;"+full+"table;", api.ErrSyntax, 0)
			expectError(t, strings.Repeat(one, most-1)+"table t;table;", api.ErrSyntax, len(one)*(most-1)+6)
			expectError(t, strings.Repeat(one, most-1)+"post p size 5 size 5;table;", api.ErrDuplicate, len(one)*(most-1)+14)
			expectError(t, full+"table 5a;", api.ErrSyntax, len(full)+7)
			expectError(t, full+"table; "+fmt.Sprint(api.MaxNumber+1), api.ErrRange, len(full)+7)
		}
	}
}
