// Package num is layer 1: see shared/doc/01-num.md.
package num

import "spinet/api"

// Add is the sum: P1.1.
func Add(a, b int64) int64 { return a + b }

// Sub is the difference: P1.1.
func Sub(a, b int64) int64 { return a - b }

// Mul is the product: P1.1.
func Mul(a, b int64) int64 { return a * b }

// Neg is 0 less it: P1.1.
func Neg(a int64) int64 { return -a }

// Div is the quotient: P1.1.
//
// The least number by -1 needs no case of its own: the language lets that
// quotient go round, without a panic.
func Div(a, b int64) (int64, error) {
	if b == 0 {
		return 0, api.ErrZero
	}
	return a / b, nil
}

// Mod is the rest: P1.1.
func Mod(a, b int64) (int64, error) {
	if b == 0 {
		return 0, api.ErrZero
	}
	return a % b, nil
}

// Big is the sum, and whether it went round: P1.1.
//
// A sum that stays lies below a just if b is below 0; one that went round
// lies on the other side of a.
func Big(a, b int64) (int64, bool) {
	sum := Add(a, b)
	return sum, (sum < a) != (b < 0)
}
