package scan_test

import (
	"math/big"
	"math/rand/v2"
	"regexp"
	"slices"
	"strings"
	"testing"

	"pinball/api"
	"pinball/scan"
)

// longest is a name of api.MaxName bytes.
const longest = "abcdefghij12"

// name is a name at an offset.
func name(text string, at int) scan.Word {
	return scan.Word{Kind: scan.KindName, Text: text, At: at}
}

// number is a number at an offset.
func number(text string, n, at int) scan.Word {
	return scan.Word{Kind: scan.KindNumber, Text: text, Number: n, At: at}
}

// end is a semicolon at an offset.
func end(at int) scan.Word {
	return scan.Word{Kind: scan.KindEnd, Text: ";", At: at}
}

// expectWords checks that s has the words of want.
func expectWords(t *testing.T, s string, want ...scan.Word) {
	t.Helper()
	l, e, at := scan.Words(s)
	if !slices.Equal(l, want) || e != api.OK || at != 0 {
		t.Errorf("Words of %s are %v %v %v instead of %v", short(s), few(l), e, at, few(want))
	}
}

// expectError checks that Words of s returns an error, its offset and nothing else.
func expectError(t *testing.T, s string, want api.Errno, offset int) {
	t.Helper()
	l, e, at := scan.Words(s)
	if len(l) != 0 || e != want || at != offset {
		t.Errorf("Words of %s are %v %v %v instead of the error %v at %v", short(s), few(l), e, at, want, offset)
	}
}

// expectJoin checks that the words of l are joined to want.
func expectJoin(t *testing.T, want string, l ...scan.Word) {
	t.Helper()
	s, ok := scan.Join(l)
	if s != want || !ok {
		t.Errorf("Join of %d words is %s %v instead of %s", len(l), short(s), ok, short(want))
	}
}

// expectNoJoin checks that the words of l are not joined.
func expectNoJoin(t *testing.T, l ...scan.Word) {
	t.Helper()
	s, ok := scan.Join(l)
	if s != "" || ok {
		t.Errorf("Join of %d words, the first %v, is %s %v", len(l), l[0], short(s), ok)
	}
}

// short is s in quotes, cut if it is long.
func short(s string) string {
	if len(s) > 60 {
		return strings.ToValidUTF8(s[:40], "?") + ".. of many bytes"
	}
	return "\"" + s + "\""
}

// few are the first words of l.
func few(l []scan.Word) []scan.Word {
	return l[:min(len(l), 9)]
}

// anywhere are the words of l without their offsets.
func anywhere(l []scan.Word) []scan.Word {
	r := slices.Clone(l)
	for i := range r {
		r[i].At = 0
	}
	return r
}

// The forms of the chapter, as regular expressions.
var (
	gapForm    = regexp.MustCompile(`^(?:[ \t\n]|#[^\n]*(?:\n|$))*`)
	nameForm   = regexp.MustCompile(`^[a-z][a-z0-9]*`)
	numberForm = regexp.MustCompile(`^-?[0-9]+`)
)

// scanned is what Words returns, by the forms of the chapter.
func scanned(s string) (l []scan.Word, e api.Errno, at int) {
	if len(s) > api.MaxText {
		return nil, api.ErrSize, 0
	}
	behindNumber := false
	for at < len(s) {
		gap := len(gapForm.FindString(s[at:]))
		at += gap
		if at == len(s) {
			break
		}
		n, d := nameForm.FindString(s[at:]), numberForm.FindString(s[at:])
		value, _ := new(big.Int).SetString(d, 10)
		switch {
		case n != "" && behindNumber && gap == 0:
			return nil, api.ErrSyntax, at
		case len(n) > api.MaxName:
			return nil, api.ErrName, at
		case n != "":
			l = append(l, name(n, at))
		case d != "" && value.CmpAbs(big.NewInt(api.MaxNumber)) > 0:
			return nil, api.ErrRange, at
		case d != "":
			l = append(l, number(d, int(value.Int64()), at))
		case s[at] == ';':
			l = append(l, end(at))
		default:
			return nil, api.ErrSyntax, at
		}
		behindNumber = d != ""
		at += len(l[len(l)-1].Text)
	}
	return l, api.OK, 0
}

// expectScanned checks that Words returns for s what the forms of the chapter say.
func expectScanned(t *testing.T, s string) {
	t.Helper()
	want, e, at := scanned(s)
	if e != api.OK {
		expectError(t, s, e, at)
		return
	}
	expectWords(t, s, want...)
}

// newRandom is a source of random numbers that are the same in each run.
func newRandom() *rand.Rand {
	return rand.New(rand.NewPCG(7, 7))
}

// randomText is a text of a few pieces; most such texts have no error.
func randomText(r *rand.Rand) string {
	pieces := []string{"a", "z", "post", "p1", longest, "0", "9", "5", "-5", "00", "-0", "1073741824", "-1073741824", ";", " ", " ", " ", "\t", "\n", "#", "# -\xff;\r5B\n", " "}
	if r.IntN(3) == 0 {
		pieces = append(pieces, "-", "A", "\r", "\x00", "ä", "\xff", "1073741825", "12345678901", longest+"3", "\"")
	}
	var s strings.Builder
	for range r.IntN(12) {
		s.WriteString(pieces[r.IntN(len(pieces))])
	}
	return s.String()
}

// randomWord is a word as Words returns it, at any place.
func randomWord(r *rand.Rand) scan.Word {
	at := r.IntN(2000) - 1000
	switch r.IntN(4) {
	case 0:
		return end(at)
	case 1:
		n := longest[:1+r.IntN(api.MaxName)]
		return name(n, at)
	default:
		n := (r.IntN(api.MaxNumber+1) >> r.IntN(30)) * (1 - 2*r.IntN(2))
		digits := big.NewInt(int64(max(n, -n))).String()
		sign := ""
		if n < 0 || n == 0 && r.IntN(2) == 0 {
			sign = "-"
		}
		return number(sign+strings.Repeat("0", r.IntN(3))+digits, n, at)
	}
}
