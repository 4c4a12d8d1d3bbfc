package scan_test

import (
	"slices"
	"strings"
	"testing"
	"unsafe"

	"pinball/scan"
)

// loose is s in memory that can be written to.
func loose(s string) (string, []byte) {
	b := []byte(s)
	return unsafe.String(unsafe.SliceData(b), len(b)), b
}

// R3: words do not lie in the memory of the text.
func TestWordsKeepNoText(t *testing.T) {
	for _, text := range []string{"post p1 size -5;", "a", "5", ";", "# a\nb;-7", longest + " 000000000000000000000012"} {
		s, memory := loose(text)
		before, _, _ := scan.Words(text)
		l, _, _ := scan.Words(s)
		if string(memory) != text {
			t.Error("Words has changed", text)
		}
		for i := range memory {
			memory[i] = '9'
		}
		if !slices.Equal(l, before) {
			t.Error("words of", text, "have changed with the text:", l)
		}
	}
}

// R3: a joined text does not lie in the memory of the words, also if there is only one.
func TestJoinKeepsNoWord(t *testing.T) {
	for _, text := range []string{"post p1 size -5 ;", "a", "5", ";", longest, strings.Repeat("0", 3000)} {
		l, _, _ := scan.Words(text)
		var memories [][]byte
		for i := range l {
			s, memory := loose(l[i].Text)
			l[i].Text = s
			memories = append(memories, memory)
		}
		s, ok := scan.Join(l)
		for _, memory := range memories {
			clear(memory)
		}
		if s != text || !ok {
			t.Error("the joined text has changed with the words:", short(text), short(s), ok)
		}
	}
}

// R3: Join changes neither the words nor what is in the spare capacity behind them, and does not look at it.
func TestJoinArgumentStays(t *testing.T) {
	for _, l := range [][]scan.Word{nil, {name("a", 4)}, {name("a", -1), number("5", 5, 9), end(77)}, {name("a", 3), name("B", 5)}, {end(1), {}}} {
		full := append(slices.Clone(l), name("b", 1), scan.Word{Text: "c"}, end(3))
		before := slices.Clone(full)
		s, ok := scan.Join(full[:len(l)])
		if !slices.Equal(full, before) {
			t.Error("Join has changed", before, "to", full)
		}
		if want, wantOK := scan.Join(slices.Clip(slices.Clone(l))); s != want || ok != wantOK {
			t.Error("Join depends on the spare capacity of", l)
		}
	}
}

// R3: the results of two calls do not reach each other, with their spare capacity.
func TestResultsAreApart(t *testing.T) {
	const text = "a -5; b"
	first, _, _ := scan.Words(text)
	second, _, _ := scan.Words(text)
	clear(first[:cap(first)])
	if want := []scan.Word{name("a", 0), number("-5", -5, 2), end(4), name("b", 6)}; !slices.Equal(second, want) {
		t.Error("the words of another call have changed:", second)
	}
	expectWords(t, text, name("a", 0), number("-5", -5, 2), end(4), name("b", 6))
}
