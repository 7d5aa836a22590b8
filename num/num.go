// Package num does 64-bit integer arithmetic that never wraps round: a result that does not fit is an error.
// See DOC.md, chapter 1.
package num

import (
	"math"

	"cotillion/api"
)

// Add returns a + b, or ErrOver if the sum does not fit.
func Add(a, b int64) (int64, api.Errno) {
	sum := a + b
	// A sum wraps round only if both numbers have one sign and the sum has the other.
	if (a^sum)&(b^sum) < 0 {
		return 0, api.ErrOver
	}
	return sum, api.OK
}

// Sub returns a - b, or ErrOver if the difference does not fit.
func Sub(a, b int64) (int64, api.Errno) {
	diff := a - b
	// A difference wraps round only if the signs differ and the difference does not have the sign of a.
	if (a^b)&(a^diff) < 0 {
		return 0, api.ErrOver
	}
	return diff, api.OK
}

// Mul returns a * b, or ErrOver if the product does not fit.
func Mul(a, b int64) (int64, api.Errno) {
	if a == 0 || b == 0 {
		return 0, api.OK
	}
	product := a * b
	// Div, not /, because -2^63 / -1 wraps round too and would pass for exact.
	back, e := Div(product, a)
	if e != api.OK || back != b {
		return 0, api.ErrOver
	}
	return product, api.OK
}

// Div returns a / b truncated towards zero, or ErrZero if b is 0, or ErrOver if the quotient does not fit.
func Div(a, b int64) (int64, api.Errno) {
	if b == 0 {
		return 0, api.ErrZero
	}
	if a == math.MinInt64 && b == -1 {
		return 0, api.ErrOver
	}
	return a / b, api.OK
}

// Mod returns what the truncated division of a by b leaves, or ErrZero if b is 0.
func Mod(a, b int64) (int64, api.Errno) {
	if b == 0 {
		return 0, api.ErrZero
	}
	// The language defines -2^63 % -1 as 0, so no pair of numbers is out of range here.
	return a % b, api.OK
}

// Neg returns -a, or ErrOver if it does not fit.
func Neg(a int64) (int64, api.Errno) {
	return Sub(0, a)
}

// Sum adds the numbers from left to right and returns ErrOver as soon as a partial sum does not fit.
func Sum(l ...int64) (int64, api.Errno) {
	var sum int64
	for _, n := range l {
		next, e := Add(sum, n)
		if e != api.OK {
			return 0, e
		}
		sum = next
	}
	return sum, api.OK
}

// Most returns the greatest of the numbers, or 0 if there are none.
func Most(l ...int64) int64 {
	if len(l) == 0 {
		return 0
	}
	most := l[0]
	for _, n := range l[1:] {
		most = max(most, n)
	}
	return most
}

// Parts returns n / by rounded up, or ErrArg if n is negative or by is less than 1.
func Parts(n, by int64) (int64, api.Errno) {
	if n < 0 || by < 1 {
		return 0, api.ErrArg
	}
	parts := n / by
	// Not (n + by - 1) / by, because that sum may not fit.
	if n%by != 0 {
		parts++
	}
	return parts, api.OK
}
