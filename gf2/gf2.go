// Package gf2 is layer 3: polynomials over two numbers: see shared/doc/03-gf2.md.
package gf2

import "math/bits"

// Poly is one: bit i is the coefficient of the i-th power.
type Poly uint64

// maxDegree is the greatest that a Poly has room for.
const maxDegree = 63

// Degree: the greatest power whose coefficient is 1; of 0: -1.
func Degree(a Poly) int { return bits.Len64(uint64(a)) - 1 }

// Add: the sum.
func Add(a, b Poly) Poly { return a ^ b }

// Times: the product, if there is room for it.
func Times(a, b Poly) (Poly, bool) {
	// With a factor 0 this can't be too great: -1 and 63 are 62.
	if Degree(a)+Degree(b) > maxDegree {
		return 0, false
	}
	var product Poly
	for ; b != 0; b >>= 1 {
		if b&1 == 1 {
			product = Add(product, a)
		}
		a <<= 1
	}
	return product, true
}

// Over: quotient and rest.
func Over(a, b Poly) (Poly, Poly, bool) {
	if b == 0 {
		return 0, 0, false
	}
	var quotient Poly
	// Each round takes a's highest power away, so its degree falls till it is below b's.
	for d := Degree(a) - Degree(b); d >= 0; d = Degree(a) - Degree(b) {
		quotient = Add(quotient, 1<<d)
		a = Add(a, b<<d)
	}
	return quotient, a, true
}

// Common: the one of the greatest degree that divides both.
func Common(a, b Poly) Poly {
	for b != 0 {
		_, rest, _ := Over(a, b)
		a, b = b, rest
	}
	return a
}

// Rest: of a list of coefficients, the highest power first, by b.
func Rest(l []byte, b Poly) (Poly, bool) {
	degree := Degree(b)
	// One power more than b's must have room, while a coefficient is taken in.
	if b == 0 || degree == maxDegree {
		return 0, false
	}
	var rest Poly
	for _, x := range l {
		rest = rest<<1 | Poly(x&1)
		if rest>>degree&1 == 1 {
			rest = Add(rest, b)
		}
	}
	return rest, true
}
