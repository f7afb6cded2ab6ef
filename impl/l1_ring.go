package impl

import (
	"strconv"
	"strings"
)

const MaxCoef = 1000000000

type Ring struct {
	A int
	B int
	C int
	D int
}

// coefs holds the coefficients of 1, w, w^2 and w^3. No sum of four products of
// valid coefficients overflows an int, so a result is computed first and checked then.
type coefs [4]int

func coefsOf(x Ring) coefs { return coefs{x.A, x.B, x.C, x.D} }

// ringOf returns the number with coefficients c, and fails if it is not valid.
func ringOf(c coefs) (Ring, bool) {
	x := Ring{A: c[0], B: c[1], C: c[2], D: c[3]}
	if !IsValidRing(x) {
		return Ring{}, false
	}
	return x, true
}

// mulCoefs multiplies polynomials in w modulo w^4 = -1.
func mulCoefs(x coefs, y coefs) coefs {
	var product coefs
	for i, a := range x {
		for j, b := range y {
			if i+j < len(product) {
				product[i+j] += a * b
			} else {
				product[i+j-len(product)] -= a * b
			}
		}
	}
	return product
}

// divideExactly divides by a positive n, and fails if the quotient is not in the ring.
func divideExactly(c coefs, n int) (Ring, bool) {
	var quotient, remainder coefs
	for i, a := range c {
		quotient[i], remainder[i] = a/n, a%n
	}
	if remainder != (coefs{}) {
		return Ring{}, false
	}
	return ringOf(quotient)
}

// timesRootTwo leaves the result unchecked, because DivRootTwo halves it.
func timesRootTwo(x Ring) coefs {
	return coefs{x.B - x.D, x.A + x.C, x.B + x.D, x.C - x.A}
}

// IsValidRing reports whether x is valid.
func IsValidRing(x Ring) bool {
	for _, a := range coefsOf(x) {
		if a < -MaxCoef || a > MaxCoef {
			return false
		}
	}
	return true
}

// AddRing returns the sum.
func AddRing(x Ring, y Ring) (Ring, bool) {
	if !IsValidRing(x) || !IsValidRing(y) {
		return Ring{}, false
	}
	return ringOf(coefs{x.A + y.A, x.B + y.B, x.C + y.C, x.D + y.D})
}

// SubRing returns the difference x - y.
func SubRing(x Ring, y Ring) (Ring, bool) {
	if !IsValidRing(x) || !IsValidRing(y) {
		return Ring{}, false
	}
	return ringOf(coefs{x.A - y.A, x.B - y.B, x.C - y.C, x.D - y.D})
}

// MulRing returns the product.
func MulRing(x Ring, y Ring) (Ring, bool) {
	if !IsValidRing(x) || !IsValidRing(y) {
		return Ring{}, false
	}
	return ringOf(mulCoefs(coefsOf(x), coefsOf(y)))
}

// Conjugate returns the complex conjugate: A - D w - C w^2 - B w^3.
func Conjugate(x Ring) (Ring, bool) {
	if !IsValidRing(x) {
		return Ring{}, false
	}
	return Ring{A: x.A, B: -x.D, C: -x.C, D: -x.B}, true
}

// Bullet returns the image under the automorphism that maps w to -w (and the square root of 2 to its negative): A - B w + C w^2 - D w^3.
func Bullet(x Ring) (Ring, bool) {
	if !IsValidRing(x) {
		return Ring{}, false
	}
	return Ring{A: x.A, B: -x.B, C: x.C, D: -x.D}, true
}

// MulOmega returns x multiplied by w^k for k from -1000 to 1000.
func MulOmega(x Ring, k int) (Ring, bool) {
	if !IsValidRing(x) || k < -1000 || k > 1000 {
		return Ring{}, false
	}
	power := (k%8 + 8) % 8 // w^8 = 1
	sign := 1
	if power >= 4 {
		sign = -1 // w^4 = -1
	}
	var factor coefs
	factor[power%4] = sign
	return ringOf(mulCoefs(coefsOf(x), factor))
}

// MulRootTwo returns x multiplied by the square root of 2: (B-D) + (A+C) w + (B+D) w^2 + (C-A) w^3.
func MulRootTwo(x Ring) (Ring, bool) {
	if !IsValidRing(x) {
		return Ring{}, false
	}
	return ringOf(timesRootTwo(x))
}

// DivRootTwo returns x divided by the square root of 2. It fails if the quotient is not in the ring.
func DivRootTwo(x Ring) (Ring, bool) {
	if !IsValidRing(x) {
		return Ring{}, false
	}
	return divideExactly(timesRootTwo(x), 2)
}

// AbsSquare returns the integers u and v for which x times its conjugate is u + v times the square root of 2.
func AbsSquare(x Ring) (int, int, bool) {
	conjugate, _ := Conjugate(x)
	// The product is u + v w - v w^3, so it is valid exactly if u and v are within the limit.
	square, ok := MulRing(x, conjugate)
	return square.A, square.B, ok
}

// NormOf returns the norm u^2 - 2 v^2, which is not negative. It fails if AbsSquare fails.
func NormOf(x Ring) (int, bool) {
	u, v, ok := AbsSquare(x)
	return u*u - 2*v*v, ok
}

// DivRing returns the quotient x / y if y is not zero and the quotient is in the ring.
func DivRing(x Ring, y Ring) (Ring, bool) {
	u, v, ok := AbsSquare(y)
	if !ok || coefsOf(y) == (coefs{}) {
		return Ring{}, false
	}
	conjugate, _ := Conjugate(y)
	product, ok := MulRing(x, conjugate)
	if !ok {
		return Ring{}, false
	}
	product, ok = MulRing(product, Ring{A: u, B: -v, D: v})
	if !ok {
		return Ring{}, false
	}
	return divideExactly(coefsOf(product), u*u-2*v*v)
}

// FormatRing returns the four coefficients in decimal, separated by blanks.
func FormatRing(x Ring) (string, bool) {
	if !IsValidRing(x) {
		return "", false
	}
	var words []string
	for _, a := range coefsOf(x) {
		words = append(words, strconv.Itoa(a))
	}
	return strings.Join(words, " "), true
}

// ParseRing returns the valid number with the given text.
func ParseRing(s string) (Ring, bool) {
	var c coefs
	words := strings.SplitN(s, " ", len(c)+1)
	if len(words) != len(c) {
		return Ring{}, false
	}
	for i, word := range words {
		a, err := strconv.Atoi(word)
		if err != nil {
			return Ring{}, false
		}
		c[i] = a
	}
	x, ok := ringOf(c)
	// Atoi also reads plus signs, leading zeros and -0, which no text of FormatRing has.
	if text, _ := FormatRing(x); !ok || text != s {
		return Ring{}, false
	}
	return x, true
}
