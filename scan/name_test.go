package scan_test

import (
	"regexp"
	"strings"
	"testing"

	"pinball/api"
	"pinball/scan"
)

// P7.1: names, among them the shortest and the longest.
func TestName(t *testing.T) {
	for _, s := range []string{"a", "z", "m", "p1", "a0", "z9", "post", "a1b2c3", "table", "wall", longest, strings.Repeat("z", api.MaxName), "a" + strings.Repeat("9", api.MaxName-1)} {
		if !scan.Name(s) {
			t.Error("not a name:", s)
		}
	}
}

// P7.1: texts that are no names.
func TestNoName(t *testing.T) {
	for _, s := range []string{"", "0", "9", "1a", "5", "-5", "-a", "a-", ";", "a;", "#", "a#", "A", "Ab", "aB", "a_b", "_", "a b", " a", "a ", "a\n", "\ta", "a\x00", "\x00", "ä", "aä", "äa", "é", "ａ", "a１", "٣", "a\xff", "\xff", "\xe4", "a\xc3", "ſ", "K", longest + "3", longest + " ", strings.Repeat("a", api.MaxName+1), strings.Repeat("a", 1000000)} {
		if scan.Name(s) {
			t.Error("a name:", short(s))
		}
	}
}

// P7.1: every byte alone, in front of and behind a letter and a digit, and all short texts of a few bytes.
func TestNameBytes(t *testing.T) {
	form := regexp.MustCompile(`^[a-z][a-z0-9]{0,11}$`)
	check := func(s string) {
		if scan.Name(s) != form.MatchString(s) {
			t.Errorf("Name of %q is %v", s, scan.Name(s))
		}
	}
	for b := range 256 {
		c := string([]byte{byte(b)})
		for _, s := range []string{c, "a" + c, c + "a", "7" + c, c + "7", "ab" + c + "1", longest[1:] + c, longest + c, c + longest} {
			check(s)
		}
	}
	texts(3, "az09 -;\nA\xc3\xa4", check)
}

// texts calls f with all texts of at most n bytes out of bytes.
func texts(n int, bytes string, f func(s string)) {
	l := []string{""}
	for range n + 1 {
		var longer []string
		for _, s := range l {
			f(s)
			for i := range len(bytes) {
				longer = append(longer, s+bytes[i:i+1])
			}
		}
		l = longer
	}
}
