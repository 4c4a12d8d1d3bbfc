package scan

import (
	"strings"

	"pinball/api"
)

// first returns the word that s begins with; its At is 0.
func first(s string) (Word, api.Errno) {
	if n := nameLength(s); n > 0 {
		return name(s[:n])
	}
	if n := numberLength(s); n > 0 {
		return number(s[:n])
	}
	if strings.HasPrefix(s, ";") {
		return Word{Kind: KindEnd, Text: ";"}, api.OK
	}
	return Word{}, api.ErrSyntax
}

// name returns the name that is written s.
func name(s string) (Word, api.Errno) {
	if len(s) > api.MaxName {
		return Word{}, api.ErrName
	}
	return Word{Kind: KindName, Text: strings.Clone(s)}, api.OK
}

// number returns the number that is written s.
func number(s string) (Word, api.Errno) {
	digits, negative := strings.CutPrefix(s, "-")
	n := 0
	for _, c := range digits {
		n = 10*n + int(c-'0')
		if n > api.MaxNumber { // here, since more digits might be too many for an int
			return Word{}, api.ErrRange
		}
	}
	if negative {
		n = -n
	}
	return Word{Kind: KindNumber, Text: strings.Clone(s), Number: n}, api.OK
}

// nameLength returns the number of bytes of the name, of any length, that s begins with; 0 if there is none.
func nameLength(s string) int {
	for i, c := range s {
		if !letter(c) && (i == 0 || !digit(c)) {
			return i
		}
	}
	return len(s)
}

// numberLength returns the number of bytes of the number, of any size, that s begins with; 0 if there is none.
func numberLength(s string) int {
	digits, _ := strings.CutPrefix(s, "-")
	rest := strings.TrimLeft(digits, "0123456789")
	if rest == digits {
		return 0
	}
	return len(s) - len(rest)
}

// letter reports whether names may begin with c.
func letter(c rune) bool {
	return 'a' <= c && c <= 'z'
}

// digit reports whether c is a decimal digit.
func digit(c rune) bool {
	return '0' <= c && c <= '9'
}
