package integer_test

import (
	"math"
	"slices"
	"testing"

	"pinball/api"
	"pinball/integer"
)

// spare is a with limbs in the spare capacity of its slice.
func spare(a api.Int) api.Int {
	l := append(slices.Clone(a.L), slices.Repeat([]uint32{0xabcd}, 8)...)
	return api.Int{Neg: a.Neg, L: l[:len(a.L)]}
}

// all is a copy of a slice with its spare capacity.
func all(l []uint32) []uint32 {
	return slices.Clone(l[:cap(l)])
}

// spoil writes into all memory that a result gives out.
func spoil(l []uint32) {
	l = append(l, 0x5a5a5a5a)
	l = l[:cap(l)]
	for i := range l {
		l[i] = 0x5a5a5a5a
	}
}

// results are the numbers that the functions return for a and b.
func results(a, b api.Int) []api.Int {
	q, r, _ := integer.Quo(a, b)
	l := []api.Int{q, r, integer.Trim(a), integer.Neg(a), integer.Of(math.MaxInt)}
	for _, f := range twos() {
		c, _ := f.call(a, b)
		l = append(l, c)
	}
	for _, n := range []int{0, 1, 32, -1, -32, -9000} {
		c, _ := integer.Shift(a, n)
		l = append(l, c)
	}
	c, _ := integer.Parse("-123456789012345678901234567890")
	return append(l, c)
}

// R3: arguments stay as they are, including the spare capacity of their slices.
func TestArgumentsStay(t *testing.T) {
	for _, x := range samples() {
		for _, y := range samples() {
			a, b := spare(x), spare(y)
			wantA, wantB := all(a.L), all(b.L)
			results(a, b)
			integer.Cmp(a, b)
			integer.Bits(a)
			integer.Sign(a)
			_, _ = integer.Text(a)
			if !slices.Equal(all(a.L), wantA) || !slices.Equal(all(b.L), wantB) {
				t.Fatal("an argument has changed:", x, y)
			}
		}
	}
}

// R3: writing into a result, or appending to it, reaches no argument and no other result.
func TestResultsAreNew(t *testing.T) {
	for _, x := range samples() {
		for _, y := range samples() {
			a, b := spare(x), spare(y)
			wantA, wantB := all(a.L), all(b.L)
			want := results(a, b)
			got := results(a, b)
			for i := range got {
				spoil(got[i].L)
				for j := i + 1; j < len(got); j++ {
					if !slices.Equal(got[j].L, want[j].L) {
						t.Fatal("a result shares memory with another:", x, y, i, j)
					}
				}
			}
			if !slices.Equal(all(a.L), wantA) || !slices.Equal(all(b.L), wantB) {
				t.Fatal("a result shares memory with an argument:", x, y)
			}
			for i, c := range results(a, b) {
				if c.Neg != want[i].Neg || !slices.Equal(c.L, want[i].L) {
					t.Fatal("a result has changed what another call returns:", x, y, i)
				}
			}
		}
	}
}

// R3: the remainder comes behind the quotient too, and the other way round.
func TestQuotientAndRemainder(t *testing.T) {
	a, b := ones(9), least(4)
	b.L[0] = 7
	wantQ, wantR, _ := integer.Quo(a, b)
	q, r, _ := integer.Quo(a, b)
	spoil(r.L)
	if !slices.Equal(q.L, wantQ.L) {
		t.Error("the remainder reaches the quotient:", q)
	}
	q, r, _ = integer.Quo(a, b)
	spoil(q.L)
	if !slices.Equal(r.L, wantR.L) {
		t.Error("the quotient reaches the remainder:", r)
	}
}
