// Package num is layer 1: see shared/doc/01-num.md.
package num

import (
	"math/bits"

	"furlong/api"
)

// Add, Sub, Mul: exact, or ErrOver.
func Add(a, b int64) (int64, api.Errno) {
	s := a + b
	if (s > a) != (b > 0) {
		return 0, api.ErrOver
	}
	return s, api.OK
}

func Sub(a, b int64) (int64, api.Errno) {
	d := a - b
	if (d < a) != (b > 0) {
		return 0, api.ErrOver
	}
	return d, api.OK
}

func Mul(a, b int64) (int64, api.Errno) {
	return multiply(a, b).narrow()
}

// The sides of nought, as places in Sum's array.
const (
	above = iota
	below
	sides
)

// Sum: the exact sum of a list.
func Sum(l []int64) (int64, api.Errno) {
	// Each side only grows, so no order of the list lets it wrap round.
	var sums [sides]wide
	for _, x := range l {
		side := above
		if x < 0 {
			side = below
		}
		sums[side] = sums[side].plus(size(x))
	}
	return difference(sums[above], sums[below]).narrow()
}

// Cmp: a/b against c/d. MulDiv: a*b/c, rounded down.
func Cmp(a, b, c, d int64) (int, api.Errno) {
	if b < 1 || d < 1 {
		return 0, api.ErrArg
	}
	return multiply(a, d).compare(multiply(c, b)), api.OK
}

func MulDiv(a, b, c int64) (int64, api.Errno) {
	if c < 1 {
		return 0, api.ErrArg
	}
	p := multiply(a, b)
	if p.size.high >= uint64(c) { // the quotient has more than 64 bits, and Div64 would panic
		return 0, api.ErrOver
	}
	quotient, rest := bits.Div64(p.size.high, p.size.low, uint64(c))
	q := signed{negative: p.negative, size: wide{low: quotient}}
	if q.negative && rest > 0 { // down is away from nought here
		q.size = q.size.plus(1)
	}
	return q.narrow()
}

// Gcd: the greatest common divisor.
func Gcd(a, b int64) int64 {
	x, y := size(a), size(b)
	for y != 0 {
		x, y = y, x%y
	}
	if x == limit {
		return 0
	}
	return int64(x)
}
