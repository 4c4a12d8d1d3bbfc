package integer_test

import (
	"math/big"
	"strings"
	"testing"

	"pinball/api"
	"pinball/integer"
)

// P1.5: Text, for numbers of all forms.
func TestText(t *testing.T) {
	l := append(samples(), ones(api.MaxLimbs), negative(ones(api.MaxLimbs)), padded(least(api.MaxLimbs), 9))
	for n := range 40 { // 9 digits are a group: powers of 10 and their neighbours are where one begins
		p := new(big.Int).Exp(big.NewInt(10), big.NewInt(int64(n)), nil)
		l = append(l, number(p), number(new(big.Int).Sub(p, big.NewInt(1))), number(p.Neg(p)))
	}
	for _, a := range l {
		s, e := integer.Text(a)
		if e != api.OK || s != value(a).String() {
			t.Error("Text:", a, s, e)
		}
	}
	for _, z := range zeros() {
		if s, e := integer.Text(z); e != api.OK || s != "0" {
			t.Error("Text of 0:", z, s, e)
		}
	}
	for _, a := range []api.Int{ones(api.MaxLimbs + 1), negative(least(api.MaxLimbs + 1)), ones(3000)} {
		if s, e := integer.Text(a); e != api.ErrSize || s != "" {
			t.Error("Text of a large number:", s, e)
		}
	}
}

// P1.5: Parse, with leading zeros and signs.
func TestParse(t *testing.T) {
	for _, s := range []string{"0", "-0", "00", "-000000000000", "7", "-7", "0007", "-0007", "4294967295", "4294967296", "-9223372036854775808", "999999999", "1000000000", "000000000999999999", "123456789012345678901234567890", strings.Repeat("9", 2466), "-" + strings.Repeat("123456789", 274)} {
		want, _ := new(big.Int).SetString(s, 10)
		a, e := integer.Parse(s)
		if e != api.OK {
			t.Error("Parse:", s, e)
		}
		expect(t, "Parse of "+s, a, want)
	}
}

// P1.5: texts that are no numbers, of any length.
func TestParseSyntax(t *testing.T) {
	long := strings.Repeat("1", 3001)
	for _, s := range []string{"", "-", "--1", "+1", "-+1", "1-", "1-2", " 1", "1 ", "\n1", "1\n", "1.0", "1e3", "0x10", "1_000", "a", "12a4", "/", ":", "\x00", "١", "１", "\xff", "-\xff1", long + "x", "x" + long, long + "-", "--" + long} {
		a, e := integer.Parse(s)
		expectError(t, "Parse of "+s, a, e, api.ErrSyntax)
	}
}

// P1.5: texts of 3,000 bytes and of one more, and numbers at the limit.
func TestParseSizes(t *testing.T) {
	most := value(ones(api.MaxLimbs)).String()
	large := new(big.Int).Add(value(ones(api.MaxLimbs)), big.NewInt(1)).String()
	pad := func(sign, digits string, n int) string {
		return sign + strings.Repeat("0", n-len(sign)-len(digits)) + digits
	}
	for _, s := range []string{most, "-" + most, pad("", "5", 3000), pad("-", "5", 3000), pad("", most, 3000), pad("-", most, 3000), pad("", "0", 3000)} {
		want, _ := new(big.Int).SetString(s, 10)
		a, e := integer.Parse(s)
		if e != api.OK {
			t.Error("Parse of", len(s), "bytes:", e)
		}
		expect(t, "Parse of a long text", a, want)
	}
	for _, s := range []string{large, "-" + large, pad("", "5", 3001), pad("-", "5", 3001), pad("", "0", 3001), pad("", large, 3000), strings.Repeat("9", 3000), strings.Repeat("9", 3001), strings.Repeat("9", 100000)} {
		a, e := integer.Parse(s)
		expectError(t, "Parse of a large number", a, e, api.ErrSize)
	}
}
