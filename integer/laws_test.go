package integer_test

import (
	"math/rand/v2"
	"testing"

	"pinball/api"
	"pinball/integer"
)

// must is a result that has no error.
func must(t *testing.T) func(a api.Int, e api.Errno) api.Int {
	return func(a api.Int, e api.Errno) api.Int {
		t.Helper()
		if e != api.OK {
			t.Fatal("error", e)
		}
		return a
	}
}

// P1.6: the laws of a commutative ring.
func TestRing(t *testing.T) {
	ok := must(t)
	same := func(law string, a, b api.Int) {
		t.Helper()
		if integer.Cmp(a, b) != 0 {
			t.Error(law, a, b)
		}
	}
	add := func(a, b api.Int) api.Int { return ok(integer.Add(a, b)) }
	mul := func(a, b api.Int) api.Int { return ok(integer.Mul(a, b)) }
	zero, one := api.Int{}, integer.Of(1)
	r := rand.New(rand.NewPCG(4, 4))
	for range 2000 {
		a, b, c := randomNumber(r, 20), randomNumber(r, 20), randomNumber(r, 20)
		same("a + b = b + a", add(a, b), add(b, a))
		same("(a + b) + c = a + (b + c)", add(add(a, b), c), add(a, add(b, c)))
		same("a + 0 = a", add(a, zero), a)
		same("a + -a = 0", add(a, integer.Neg(a)), zero)
		same("a - b = a + -b", ok(integer.Sub(a, b)), add(a, integer.Neg(b)))
		same("a b = b a", mul(a, b), mul(b, a))
		same("(a b) c = a (b c)", mul(mul(a, b), c), mul(a, mul(b, c)))
		same("1 a = a", mul(one, a), a)
		same("a (b + c) = a b + a c", mul(a, add(b, c)), add(mul(a, b), mul(a, c)))
	}
}

// P1.6: Quo, Gcd and Text agree with the ring.
func TestAgreement(t *testing.T) {
	ok := must(t)
	r := rand.New(rand.NewPCG(5, 5))
	for range 2000 {
		a, b := randomNumber(r, 60), randomNumber(r, 30)
		s, e := integer.Text(a)
		if back, f := integer.Parse(s); e != api.OK || f != api.OK || integer.Cmp(back, a) != 0 {
			t.Error("Parse of Text is the number:", a, s)
		}
		if integer.Sign(b) == 0 {
			continue
		}
		q, rest, e := integer.Quo(a, b)
		if sum := ok(integer.Add(ok(integer.Mul(q, b)), rest)); e != api.OK || integer.Cmp(sum, a) != 0 {
			t.Error("a = q b + r:", a, b, q, rest)
		}
		positive := func(n api.Int) api.Int { return api.Int{L: n.L} }
		if integer.Cmp(positive(rest), positive(b)) >= 0 || integer.Sign(rest) == -integer.Sign(a) && integer.Sign(a) != 0 {
			t.Error("the remainder is less than b and has the sign of a:", a, b, rest)
		}
		g := ok(integer.Gcd(a, b))
		for _, n := range []api.Int{a, b} {
			if _, rest, e := integer.Quo(n, g); e != api.OK || integer.Sign(rest) != 0 {
				t.Error("the Gcd divides both:", a, b, g)
			}
		}
	}
}

// The examples of the chapter.
func TestExamples(t *testing.T) {
	q, r, _ := integer.Quo(integer.Of(-7), integer.Of(2))
	if integer.Cmp(q, integer.Of(-3)) != 0 || integer.Cmp(r, integer.Of(-1)) != 0 {
		t.Error("Quo(-7, 2):", q, r)
	}
	if a, _ := integer.Shift(integer.Of(-5), -1); integer.Cmp(a, integer.Of(-3)) != 0 {
		t.Error("Shift(-5, -1):", a)
	}
	if n := integer.Bits(integer.Of(255)); n != 8 {
		t.Error("Bits(255):", n)
	}
	if s, _ := integer.Text(number(power(64))); s != "18446744073709551616" {
		t.Error("Text of 2^64:", s)
	}
}
