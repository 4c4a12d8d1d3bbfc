package scan_test

import (
	"strings"
	"testing"

	"pinball/api"
)

// P7.3: bytes that begin no word, at every place of a text.
func TestSyntax(t *testing.T) {
	for b := range 256 {
		c := string([]byte{byte(b)})
		if strings.Contains(" \t\n#;", c) || "a" <= c && c <= "z" || "0" <= c && c <= "9" {
			continue
		}
		for _, behind := range []string{"", " ", "\n", ";", "a", "#", "B", "-", "\xff", "ä", " 5a"} {
			for _, before := range []string{"", " ", "\n\t", "a", "a ", "a5", longest, "5", "5 ", "-5", ";", "#\n", "a # \xff-\n", "1073741824"} {
				expectError(t, before+c+behind, api.ErrSyntax, len(before))
			}
		}
	}
	for _, s := range []string{"\r\n", "a\r\n", "a;\r\nb;", "\va", "a\f", "\x00", "a\x00b", "\x7f", "a_b", "a.b", "1.5", "1,5", "+5", "a\u00a0b", "\ufeffa", "ä", "\u2028", "a\u0085", "٣", "ａ", "\"a\"", "// a", "a: 5", "5%"} {
		at := strings.IndexFunc(s, func(c rune) bool { return !strings.ContainsRune("ab5;1 ", c) })
		expectError(t, s, api.ErrSyntax, at)
	}
}

// P7.3: a minus sign without a digit behind it.
func TestMinus(t *testing.T) {
	for _, before := range []string{"", " ", "a", "a ", longest, "5", "5 ", "-5", ";", "#\n"} {
		for _, behind := range []string{"", " ", " 5", "\t5", "\n5", "a", "a5", "-5", "-", "--5", ";", "#", "#\n5", "\xff5", "+5", "\x005", "５"} {
			expectError(t, before+"-"+behind, api.ErrSyntax, len(before))
		}
	}
}

// P7.3: a letter directly behind a number, also if it begins a name that is too long.
func TestLetterBehindNumber(t *testing.T) {
	for _, n := range []string{"5", "-5", "0", "-0", "007", "1073741824", "-1073741824", strings.Repeat("0", 100)} {
		for _, behind := range []string{"a", "z", "a5", "m;", "e5", "x10", longest, longest + "3", "a-"} {
			for _, before := range []string{"", "ab ", "ab;", "# 5a\n", "a-5 "} {
				expectError(t, before+n+behind, api.ErrSyntax, len(before+n))
			}
			expectError(t, n+"-5"+behind, api.ErrSyntax, len(n)+2)
		}
	}
}

// P7.3: names that are too long, ahead of what is directly behind them.
func TestLongNames(t *testing.T) {
	for _, s := range []string{longest + "3", longest + "z", strings.Repeat("a", api.MaxText-40), "a" + strings.Repeat("0", 50)} {
		for _, behind := range []string{"", " ", ";", "-", "-5", "A", "\xff", "ä", "\r", " -", " 5a", "#", " 99999999999"} {
			for _, before := range []string{"", "b;", "b\n", "-5;", "-7# a\n", longest + " "} {
				expectError(t, before+s+behind, api.ErrName, len(before))
			}
		}
	}
}

// P7.3: numbers that are too great, ahead of what is directly behind them.
func TestGreatNumbers(t *testing.T) {
	zeros := strings.Repeat("0", 5000)
	for _, n := range []string{"1073741825", "1073741830", "1073741824" + "0", "2147483647", "2147483648", "4294967295", "4294967296", "4294967297", "9223372036854775807", "9223372036854775808", "18446744073709551615", "18446744073709551616", "18446744073709551617", "184467440737095516160000000005", "36893488147419103233", strings.Repeat("9", 10), strings.Repeat("9", api.MaxText-40), "1" + zeros, zeros + "1073741825", "1" + zeros + "7", zeros + strings.Repeat("3", 5000)} {
		for _, sign := range []string{"", "-"} {
			for _, behind := range []string{"", " ", ";", "a", "A", "-", "-5", longest + "3", "\xff", "\r", "#", " -", " 5a"} {
				for _, before := range []string{"", "\nb ", ";;#\xff\n", "5;", "1073741824 "} {
					expectError(t, before+sign+n+behind, api.ErrRange, len(before))
				}
			}
			expectError(t, "5-"+n, api.ErrRange, 1)
		}
	}
}

// P7.3: the first error of a text counts, whatever its kind is.
func TestFirstError(t *testing.T) {
	syntax, long, great := "- ", longest+"345 ", "9999999999 "
	expectError(t, syntax+long+great, api.ErrSyntax, 0)
	expectError(t, syntax+great+long, api.ErrSyntax, 0)
	expectError(t, long+syntax+great, api.ErrName, 0)
	expectError(t, long+great+syntax, api.ErrName, 0)
	expectError(t, great+syntax+long, api.ErrRange, 0)
	expectError(t, great+long+syntax, api.ErrRange, 0)
	expectError(t, "a; 5 #"+great+"\n"+syntax+great, api.ErrSyntax, len("a; 5 #"+great+"\n"))
	expectError(t, "5a", api.ErrSyntax, 1)
	expectError(t, "- 5", api.ErrSyntax, 0)
	expectError(t, "99999999999a", api.ErrRange, 0)
	expectError(t, "5 -6b -", api.ErrSyntax, 4)
}

// P7.3: texts of api.MaxText bytes and of more, whatever they consist of.
func TestSizes(t *testing.T) {
	for _, s := range []string{" ", "a ", "5 ", ";", "\n", "# a", "a", "5", "-", "\xff", "A", "0", "#"} {
		full := strings.Repeat(s, api.MaxText)[:api.MaxText]
		expectScanned(t, full)
		for _, more := range []string{" ", "\n", ";", "a", "5", "-", "\xff", full, strings.Repeat(" ", 1000000)} {
			expectError(t, full+more, api.ErrSize, 0)
			expectError(t, more+full, api.ErrSize, 0)
		}
	}
	expectError(t, strings.Repeat(" ", api.MaxText-1)+"-", api.ErrSyntax, api.MaxText-1)
	expectError(t, strings.Repeat(" ", api.MaxText-1)+"-5", api.ErrSize, 0)
	expectError(t, strings.Repeat(" ", api.MaxText-len(longest)-1)+longest+"3", api.ErrName, api.MaxText-len(longest)-1)
}

// P7.1 to P7.3: all short texts of a few bytes, and random ones, against the forms of the chapter.
func TestScanned(t *testing.T) {
	texts(5, "az5-; \n#A\xff", func(s string) { expectScanned(t, s) })
	r := newRandom()
	for range 50000 {
		expectScanned(t, randomText(r))
	}
}
