package scan_test

import (
	"strconv"
	"strings"
	"testing"

	"pinball/api"
	"pinball/scan"
)

// P7.2: names, numbers and semicolons with blanks between them.
func TestWords(t *testing.T) {
	expectWords(t, "post p1 size -5;", name("post", 0), name("p1", 5), name("size", 8), number("-5", -5, 13), end(15))
	expectWords(t, "a", name("a", 0))
	expectWords(t, longest, name(longest, 0))
	expectWords(t, "z0 "+longest+" a", name("z0", 0), name(longest, 3), name("a", 16))
	expectWords(t, "7", number("7", 7, 0))
	expectWords(t, ";", end(0))
	expectWords(t, "table radius 100 balls 2 trough 5; wall w from 0 0 to 900 -20;",
		name("table", 0), name("radius", 6), number("100", 100, 13), name("balls", 17), number("2", 2, 23), name("trough", 25), number("5", 5, 32), end(33),
		name("wall", 35), name("w", 40), name("from", 42), number("0", 0, 47), number("0", 0, 49), name("to", 51), number("900", 900, 54), number("-20", -20, 58), end(61))
}

// P7.2: texts without words.
func TestNoWords(t *testing.T) {
	for _, s := range []string{"", " ", "\t", "\n", " \t\n \n\n", "#", "#\n", "##", " # a 5;", "#a\n#b\n", "\n#\t\n ", strings.Repeat(" ", api.MaxText), "#" + strings.Repeat("-", api.MaxText-1)} {
		expectWords(t, s)
	}
}

// P7.2: blanks, tabs and line feeds separate words and are otherwise ignored.
func TestSeparators(t *testing.T) {
	for _, gap := range []string{" ", "\t", "\n", "  ", "\t\n", " \n\t \n", strings.Repeat("\n ", 500)} {
		n := len(gap)
		expectWords(t, "ab"+gap+"c", name("ab", 0), name("c", 2+n))
		expectWords(t, "5"+gap+"a", number("5", 5, 0), name("a", 1+n))
		expectWords(t, "5"+gap+"6", number("5", 5, 0), number("6", 6, 1+n))
		expectWords(t, ";"+gap+";", end(0), end(1+n))
		expectWords(t, gap+"a"+gap+"-5"+gap, name("a", n), number("-5", -5, 2*n+1))
		expectError(t, "-"+gap+"5", api.ErrSyntax, 0)
	}
}

// P7.2: comments, which separate words too, with anything in them.
func TestComments(t *testing.T) {
	var all []byte
	for b := range 256 {
		if b != '\n' {
			all = append(all, byte(b))
		}
	}
	for _, c := range []string{"#", "# a 5;", "#-", "##", "#;#", "#\r", "#\x00", "#ä", "#\xff\xfe", "#ABC", "#" + longest + longest, "#99999999999999", "#" + string(all), "#" + strings.Repeat(" #", 4000)} {
		n := len(c)
		expectWords(t, c)
		expectWords(t, c+"\n")
		expectWords(t, c+"\na", name("a", n+1))
		expectWords(t, "\n "+c+"\n\t5", number("5", 5, n+4))
		expectWords(t, "a "+c+"\nb", name("a", 0), name("b", n+3))
		expectWords(t, "a"+c+"\nb;", name("a", 0), name("b", n+2), end(n+3))
		expectWords(t, "5"+c+"\nb", number("5", 5, 0), name("b", n+2))
		expectWords(t, "5"+c+"\n6"+c, number("5", 5, 0), number("6", 6, n+2))
		expectWords(t, ";"+c+"\n"+c+"\n;", end(0), end(2*n+3))
		expectWords(t, longest+c, name(longest, 0))
		expectWords(t, "-7"+c+"\n", number("-7", -7, 0))
		expectWords(t, "; "+c+"\n", end(0))
	}
}

// P7.2: words that touch one another.
func TestTouching(t *testing.T) {
	expectWords(t, "a;b", name("a", 0), end(1), name("b", 2))
	expectWords(t, "5;6", number("5", 5, 0), end(1), number("6", 6, 2))
	expectWords(t, ";;;", end(0), end(1), end(2))
	expectWords(t, ";a;5;-5;", end(0), name("a", 1), end(2), number("5", 5, 3), end(4), number("-5", -5, 5), end(7))
	expectWords(t, "a5", name("a5", 0))
	expectWords(t, "a5b6", name("a5b6", 0))
	expectWords(t, "a-5", name("a", 0), number("-5", -5, 1))
	expectWords(t, "a1-5-6", name("a1", 0), number("-5", -5, 2), number("-6", -6, 4))
	expectWords(t, "5-6", number("5", 5, 0), number("-6", -6, 1))
	expectWords(t, "0-0-0;", number("0", 0, 0), number("-0", 0, 1), number("-0", 0, 3), end(5))
	expectWords(t, longest+"-1", name(longest, 0), number("-1", -1, api.MaxName))
	expectWords(t, "-1073741824-1073741824", number("-1073741824", -api.MaxNumber, 0), number("-1073741824", -api.MaxNumber, 11))
}

// P7.2: the values of numbers of all lengths, with leading zeros and the minus sign.
func TestNumbers(t *testing.T) {
	l := []int{0, 1, 9, 10, 12, 99, 100, 987654321, 123456789, api.MaxNumber - 1, api.MaxNumber}
	for n := 1; n <= api.MaxNumber/2; n *= 2 {
		l = append(l, n, n-1, n+1, 3*n/2)
	}
	for n := 1; n <= api.MaxNumber/10; n *= 10 {
		l = append(l, n, n-1, 10*n-1, 7*n)
	}
	for _, n := range l {
		for _, zeros := range []string{"", "0", "000", strings.Repeat("0", 40), strings.Repeat("0", api.MaxText-20)} {
			s := zeros + strconv.Itoa(n)
			expectWords(t, s, number(s, n, 0))
			expectWords(t, "-"+s, number("-"+s, -n, 0))
			expectWords(t, "a -"+s+";", name("a", 0), number("-"+s, -n, 2), end(3+len(s)))
		}
	}
	expectWords(t, "-0", number("-0", 0, 0))
	expectWords(t, "-000", number("-000", 0, 0))
	expectWords(t, strings.Repeat("0", api.MaxText), number(strings.Repeat("0", api.MaxText), 0, 0))
}

// P7.2: texts of the greatest size, with many words too.
func TestLongTexts(t *testing.T) {
	var ends, short []scan.Word
	for i := range api.MaxText {
		ends = append(ends, end(i))
	}
	expectWords(t, strings.Repeat(";", api.MaxText), ends...)
	for i := range api.MaxText / 4 {
		short = append(short, name("a", 4*i), number("-1", -1, 4*i+1), end(4*i+3))
	}
	expectWords(t, strings.Repeat("a-1;", api.MaxText/4), short...)
	expectWords(t, strings.Repeat("\n", api.MaxText-1)+"x", name("x", api.MaxText-1))
	expectWords(t, strings.Repeat("\n", api.MaxText-3)+"-42", number("-42", -42, api.MaxText-3))
}
