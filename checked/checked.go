// Package checked: operations on int64 that cannot overflow unnoticed. See shared/doc/01-checked.md.
package checked

import "math"

// Add returns a + b, or 0 and false if the sum is not an int64.
func Add(a, b int64) (int64, bool) {
	sum := a + b
	// A sum that wrapped lies on the wrong side of a.
	if (sum < a) != (b < 0) {
		return 0, false
	}
	return sum, true
}

// Sub returns a - b, or 0 and false if the difference is not an int64.
func Sub(a, b int64) (int64, bool) {
	difference := a - b
	if (difference > a) != (b < 0) {
		return 0, false
	}
	return difference, true
}

// Mul returns a * b, or 0 and false if the product is not an int64.
func Mul(a, b int64) (int64, bool) {
	if b == 0 {
		return 0, true
	}
	product := a * b
	// Dividing back shows a product that wrapped, except where the division wraps too.
	if quotientWraps(a, b) || product/b != a {
		return 0, false
	}
	return product, true
}

// Distance returns the absolute value of a - b.
func Distance(a, b int64) uint64 {
	if a < b {
		return Diff(b, a)
	}
	return Diff(a, b)
}

// Diff returns a - b modulo 2^64.
func Diff(a, b int64) uint64 {
	return uint64(a) - uint64(b)
}

// Apply returns the int64 that is a + d modulo 2^64.
func Apply(a int64, d uint64) int64 {
	return int64(uint64(a) + d)
}

// FloorDiv returns a / b rounded down, or 0 and false if there is no such int64.
func FloorDiv(a, b int64) (int64, bool) {
	if b == 0 || quotientWraps(a, b) {
		return 0, false
	}
	quotient := a / b
	if a%b != 0 && (a < 0) != (b < 0) {
		quotient-- // the operator / has rounded a negative quotient up
	}
	return quotient, true
}

// CeilDiv returns a / b rounded up, or 0 and false if there is no such int64.
func CeilDiv(a, b int64) (int64, bool) {
	if b == 0 || quotientWraps(a, b) {
		return 0, false
	}
	quotient := a / b
	if a%b != 0 && (a < 0) == (b < 0) {
		quotient++ // the operator / has rounded a positive quotient down
	}
	return quotient, true
}

// FloorMod returns the rest of the division that rounds down, or 0 and false if b is 0.
func FloorMod(a, b int64) (int64, bool) {
	if b == 0 {
		return 0, false
	}
	rest := a % b
	// The operator % gives the rest the sign of a; rounding down gives it the sign of b.
	if rest != 0 && (rest < 0) != (b < 0) {
		rest += b
	}
	return rest, true
}

// Mid returns (a + b) / 2 rounded down.
func Mid(a, b int64) int64 {
	// a + b is twice the bits that both have plus the bits that one has, and halving these parts first cannot overflow.
	return a&b + (a^b)>>1
}

// Near reports whether a and b differ by at most eps.
func Near(a, b, eps int64) bool {
	return eps >= 0 && Distance(a, b) <= uint64(eps)
}

// quotientWraps reports whether a / b is 2^63, the one quotient that is not an int64.
func quotientWraps(a, b int64) bool {
	return a == math.MinInt64 && b == -1
}
