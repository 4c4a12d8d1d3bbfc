package integer

import (
	"slices"
	"strings"

	"pinball/api"
)

const (
	maxParsed   = 3000       // bytes of a text that is parsed
	group       = 9          // decimal digits that fit in a limb
	groupWeight = 1000000000 // 10^group
)

// Text returns a in decimal digits.
func Text(a api.Int) (string, api.Errno) {
	if large(a) {
		return "", api.ErrSize
	}
	rest := duplicate(a.L)
	var text []byte // from its end
	for len(rest) > 0 {
		digits := shorten(rest, groupWeight)
		rest = cut(rest)
		for range group {
			text = append(text, byte('0'+digits%10))
			digits /= 10
		}
	}
	for len(text) > 0 && text[len(text)-1] == '0' {
		text = text[:len(text)-1]
	}
	switch {
	case len(text) == 0:
		return "0", api.OK
	case a.Neg:
		text = append(text, '-')
	}
	slices.Reverse(text)
	return string(text), api.OK
}

// Parse returns the number of which s consists.
func Parse(s string) (api.Int, api.Errno) {
	digits, neg := strings.CutPrefix(s, "-")
	if !decimal(digits) {
		return api.Int{}, api.ErrSyntax
	}
	if len(s) > maxParsed {
		return api.Int{}, api.ErrSize
	}
	var l []uint32
	var value, weight uint32 = 0, 1 // of the digits since the last group
	for i := range len(digits) {
		value = 10*value + uint32(digits[i]-'0')
		weight *= 10
		if weight == groupWeight || i == len(digits)-1 {
			l = widen(l, weight, value)
			value, weight = 0, 1
		}
	}
	return bounded(number(neg, l))
}

// decimal reports whether s consists of one or more decimal digits.
func decimal(s string) bool {
	for i := range len(s) {
		if s[i] < '0' || s[i] > '9' {
			return false
		}
	}
	return s != ""
}

// widen returns m x + n, in the memory of x if that is enough.
func widen(x []uint32, m, n uint32) []uint32 {
	carry := uint64(n)
	for i, d := range x {
		carry += uint64(m) * uint64(d)
		x[i] = uint32(carry)
		carry >>= limbBits
	}
	if carry > 0 {
		x = append(x, uint32(carry))
	}
	return x
}
