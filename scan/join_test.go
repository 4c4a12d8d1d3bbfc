package scan_test

import (
	"math"
	"slices"
	"strings"
	"testing"

	"pinball/api"
	"pinball/scan"
)

// P7.4: words are joined by single blanks, wherever they stand.
func TestJoin(t *testing.T) {
	expectJoin(t, "")
	expectJoin(t, "", []scan.Word{}...)
	expectJoin(t, "a", name("a", 0))
	expectJoin(t, ";", end(0))
	expectJoin(t, "-5", number("-5", -5, 0))
	expectJoin(t, "post p1 size -5 ;", name("post", 0), name("p1", 5), name("size", 8), number("-5", -5, 13), end(15))
	expectJoin(t, "5 a", number("5", 5, 0), name("a", 1))
	expectJoin(t, "; ; ;", end(0), end(0), end(0))
	expectJoin(t, "a a 5 6", name("a", 7), name("a", -7), number("5", 5, math.MaxInt), number("6", 6, math.MinInt))
	expectJoin(t, longest+" -1073741824 1073741824", name(longest, 1), number("-1073741824", -api.MaxNumber, 2), number("1073741824", api.MaxNumber, 1))
	expectJoin(t, "-0 0 00 -000 007 -00042", number("-0", 0, 0), number("0", 0, 0), number("00", 0, 0), number("-000", 0, 0), number("007", 7, 0), number("-00042", -42, 0))
}

// P7.4: words whose Kind, Text and Number do not fit together; each is alone, ahead of and behind words that fit.
func TestNoJoin(t *testing.T) {
	const n, d, e = scan.KindName, scan.KindNumber, scan.KindEnd
	for _, w := range []scan.Word{
		{}, {Kind: n}, {Kind: d}, {Kind: e}, {Kind: n, Text: ""}, {Text: "a"}, {Text: "5", Number: 5}, {Text: ";"},
		{Kind: d, Text: "a"}, {Kind: e, Text: "a"}, {Kind: n, Text: "5", Number: 5}, {Kind: e, Text: "5", Number: 5}, {Kind: n, Text: ";"}, {Kind: d, Text: ";"},
		{Kind: 4, Text: "a"}, {Kind: -1, Text: "a"}, {Kind: 4, Text: ";"}, {Kind: math.MaxInt, Text: "5", Number: 5}, {Kind: n + 1<<32, Text: "a"},
		{Kind: n, Text: "a", Number: 1}, {Kind: n, Text: "a5", Number: 5}, {Kind: n, Text: "a", Number: math.MinInt}, {Kind: e, Text: ";", Number: 1}, {Kind: e, Text: ";", Number: -1},
		{Kind: d, Text: "5", Number: 6}, {Kind: d, Text: "5"}, {Kind: d, Text: "5", Number: -5}, {Kind: d, Text: "-5", Number: 5}, {Kind: d, Text: "0", Number: 1}, {Kind: d, Text: "-0", Number: -1}, {Kind: d, Text: "5", Number: 5 + 1<<32}, {Kind: d, Text: "010", Number: 8}, {Kind: d, Text: "1", Number: math.MinInt},
		{Kind: n, Text: "#"}, {Kind: n, Text: "a#"}, {Kind: n, Text: "a#b"}, {Kind: n, Text: "#\na"}, {Kind: d, Text: "5#", Number: 5}, {Kind: d, Text: "#\n5", Number: 5}, {Kind: e, Text: ";#"}, {Kind: e, Text: "#\n;"}, {Kind: e, Text: "# "},
		{Kind: n, Text: " a"}, {Kind: n, Text: "a "}, {Kind: n, Text: "a\n"}, {Kind: n, Text: "\ta"}, {Kind: n, Text: " "}, {Kind: d, Text: " 5", Number: 5}, {Kind: d, Text: "5 ", Number: 5}, {Kind: d, Text: "- 5", Number: -5}, {Kind: e, Text: " ;"}, {Kind: e, Text: "; "},
		{Kind: n, Text: "a b"}, {Kind: n, Text: "a;"}, {Kind: n, Text: "a-5"}, {Kind: d, Text: "5 6", Number: 5}, {Kind: d, Text: "5-6", Number: 5}, {Kind: d, Text: "5;", Number: 5}, {Kind: d, Text: "5 6", Number: 56}, {Kind: d, Text: "5a", Number: 5}, {Kind: e, Text: ";;"}, {Kind: e, Text: "; ;"}, {Kind: e, Text: ";a"},
		{Kind: n, Text: "A"}, {Kind: n, Text: "aB"}, {Kind: n, Text: "1a"}, {Kind: n, Text: "ä"}, {Kind: n, Text: "a\xff"}, {Kind: n, Text: "a\r"}, {Kind: n, Text: longest + "3"}, {Kind: n, Text: strings.Repeat("a", 5000)}, {Kind: n, Text: "-"},
		{Kind: d, Text: "-"}, {Kind: d, Text: "--5", Number: 5}, {Kind: d, Text: "+5", Number: 5}, {Kind: d, Text: "5.0", Number: 5}, {Kind: d, Text: "1_0", Number: 10}, {Kind: d, Text: "0x10", Number: 16}, {Kind: d, Text: "５", Number: 5}, {Kind: d, Text: "1073741825", Number: api.MaxNumber + 1}, {Kind: d, Text: "-1073741825", Number: -api.MaxNumber - 1}, {Kind: d, Text: "18446744073709551621", Number: 5},
		{Kind: e, Text: ":"}, {Kind: e, Text: "；"}, {Kind: e, Text: "\x00"},
	} {
		expectNoJoin(t, w)
		w.At = 5
		expectNoJoin(t, w, name("a", 0))
		expectNoJoin(t, name("a", 0), w)
		expectNoJoin(t, number("5", 5, 0), end(1), w, end(2))
	}
}

// P7.4: results of exactly api.MaxText bytes and of one more.
func TestJoinSizes(t *testing.T) {
	l := slices.Repeat([]scan.Word{end(0)}, api.MaxText/2) // one byte less, with the blanks
	expectJoin(t, strings.Repeat("; ", api.MaxText/2-1)+";", l...)
	expectJoin(t, "-5 "+strings.Repeat("; ", api.MaxText/2-2)+";", append([]scan.Word{number("-5", -5, 0)}, l[1:]...)...)
	expectNoJoin(t, append([]scan.Word{number("-55", -55, 0)}, l[1:]...)...)
	expectNoJoin(t, append(slices.Clone(l), end(0))...)
	expectNoJoin(t, append(slices.Clone(l), number("-5", -5, 0))...)
	full := strings.Repeat("0", api.MaxText)
	expectJoin(t, full, number(full, 0, 0))
	expectJoin(t, full[2:]+" a", number(full[2:], 0, 0), name("a", 0))
	expectJoin(t, "a "+full[2:], name("a", 0), number(full[2:], 0, 0))
	expectNoJoin(t, number(full+"0", 0, 0))
	expectNoJoin(t, number(full[1:], 0, 0), name("a", 0))
	expectNoJoin(t, name("a", 0), number(full[1:], 0, 0))
	expectNoJoin(t, name("a", 0), number(full, 0, 0))
	expectNoJoin(t, number(full, 0, 0), end(0))
	expectNoJoin(t, number(full[1:]+"1", 1, 0), number(full, 0, 0))
	expectNoJoin(t, slices.Repeat([]scan.Word{number(full, 0, 0)}, 200000)...)
	expectNoJoin(t, slices.Repeat([]scan.Word{end(0)}, 3000000)...)
}

// P7.4, the consequence: a joined text has the same words, apart from At.
func TestJoinLaws(t *testing.T) {
	r := newRandom()
	for range 20000 {
		var l []scan.Word
		for range r.IntN(9) {
			l = append(l, randomWord(r))
		}
		s, ok := scan.Join(l)
		got, e, at := scan.Words(s)
		if !ok || e != api.OK || at != 0 || !slices.Equal(anywhere(got), anywhere(l)) {
			t.Fatal("Join of", l, "has the words", got, ok, e, at)
		}
		text := randomText(r)
		l, e, _ = scan.Words(text)
		s, ok = scan.Join(l)
		got, again, _ := scan.Words(s)
		if !ok || again != api.OK || e != api.OK && s != "" || !slices.Equal(anywhere(got), anywhere(l)) {
			t.Fatal("Join of the words of", text, "is", s, ok, again)
		}
	}
}

// P7.4: whatever is changed in a word, Join accepts it if and only if Words returns it for its text.
func TestJoinChanged(t *testing.T) {
	r := newRandom()
	for range 50000 {
		w := randomWord(r)
		for range 1 + r.IntN(2) {
			switch r.IntN(4) {
			case 0:
				w.Kind = r.IntN(5)
			case 1:
				w.Number += r.IntN(3) - 1
			case 2:
				w.Number = -w.Number
			default:
				at := r.IntN(len(w.Text) + 1)
				w.Text = w.Text[:at] + string("a5-; \n#0A"[r.IntN(9)]) + w.Text[at:]
			}
		}
		l, e, _ := scanned(w.Text)
		if e == api.OK && slices.Equal(anywhere(l), anywhere([]scan.Word{w})) && l[0].Text == w.Text {
			expectJoin(t, w.Text, w)
		} else {
			expectNoJoin(t, w)
		}
	}
}
