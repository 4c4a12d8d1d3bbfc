package poly_test

import (
	"math/big"
	"math/rand/v2"
	"testing"

	"pinball/api"
	"pinball/poly"
)

// checkContent compares Content and Primitive with what the standard library finds.
func checkContent(t *testing.T, m model) {
	t.Helper()
	for _, p := range []api.Poly{m.poly(), rough(m.poly())} {
		c, e := poly.Content(p)
		expect(t, "Content", poly.Trim(api.Poly{c}), e, model{m.content()})
		if !canonical(api.Poly{c, {L: []uint32{1}}}) {
			t.Error("Content is not canonical:", c)
		}
		r, e := poly.Primitive(p)
		expect(t, "Primitive", r, e, m.primitive())
	}
}

// P2.4: Content and Primitive, for polynomials of all forms.
func TestContent(t *testing.T) {
	r := rand.New(rand.NewPCG(7, 7))
	for _, m := range append(models(), limitModels()...) {
		checkContent(t, m)
	}
	for _, m := range models() {
		checkContent(t, m.times(randomNumber(r, 300)))
	}
	checkContent(t, ints(0, 0, 0, -15))
	checkContent(t, ints(0, -6, 0, 4, 10))
	checkContent(t, model{ones(most), minus(ones(most)), ones(most / 2)})
	c, e := poly.Content(poly.Of(-6, 4))
	expect(t, "Content of negative numbers", api.Poly{c}, e, ints(2))
	p, e := poly.Primitive(poly.Of(-6))
	expect(t, "Primitive of a constant", p, e, ints(-1))
	p, e = poly.Primitive(rough(nil))
	expect(t, "Primitive of 0", p, e, nil)
}

// P2.4: large arguments.
func TestContentErrors(t *testing.T) {
	for _, p := range largePolys() {
		c, e := poly.Content(p)
		if e != api.ErrSize || c.Neg || len(c.L) != 0 {
			t.Error("Content of a large polynomial:", c, e)
		}
		r, e := poly.Primitive(p)
		expectError(t, "Primitive of a large polynomial", r, e, api.ErrSize)
	}
	// Divided by its content, it would not be large.
	p, e := poly.Primitive(model{bit(most), bit(most)}.poly())
	expectError(t, "Primitive of equal coefficients", p, e, api.ErrSize)
	p, e = poly.Primitive(model{bit(most - 1), minus(bit(most - 1))}.poly())
	expect(t, "Primitive of equal coefficients", p, e, model{big.NewInt(1), big.NewInt(-1)})
}
