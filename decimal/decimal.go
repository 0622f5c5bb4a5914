// Package decimal calculates with exact decimal numbers. It is layer 1: see shared/doc/01-decimal.md.
package decimal

import (
	"math/bits"

	"manifold/api"
)

// powers are the powers of ten by which numbers of different scales differ.
var powers = [api.MaxScale + 1]uint64{
	1,
	10,
	100,
	1000,
	10000,
	100000,
	1000000,
	10000000,
	100000000,
	1000000000,
	10000000000,
	100000000000,
	1000000000000,
}

// Check returns the error of a number.
func Check(n api.Number) api.Errno {
	if n.Int < -api.MaxNumber || n.Int > api.MaxNumber || !isScale(n.Scale) {
		return api.ErrRange
	}
	return api.OK
}

func isScale(scale int) bool { return scale >= 0 && scale <= api.MaxScale }

// bothValid reports whether two numbers are valid.
func bothValid(a, b api.Number) bool { return Check(a) == api.OK && Check(b) == api.OK }

// Normal returns the equal number with the least scale.
func Normal(n api.Number) (api.Number, api.Errno) {
	if e := Check(n); e != api.OK {
		return api.Number{}, e
	}
	for n.Scale > 0 && n.Int%10 == 0 {
		n.Int /= 10
		n.Scale--
	}
	return n, api.OK
}

// Negate returns the opposite number.
func Negate(n api.Number) (api.Number, api.Errno) {
	if e := Check(n); e != api.OK {
		return api.Number{}, e
	}
	return api.Number{Int: -n.Int, Scale: n.Scale}, api.OK
}

// Floor returns the greatest integer that is not greater than a number.
func Floor(n api.Number) (int, api.Errno) {
	if e := Check(n); e != api.OK {
		return 0, e
	}
	unit := int(powers[n.Scale])
	floor := n.Int / unit
	if n.Int%unit < 0 {
		floor--
	}
	return floor, api.OK
}

// Compare returns -1, 0 or 1 if a number is less than, equal to or greater than another one.
func Compare(a, b api.Number) (int, api.Errno) {
	if !bothValid(a, b) {
		return 0, api.ErrRange
	}
	scale := max(a.Scale, b.Scale)
	difference := scaled(a, scale).plus(scaled(b, scale).opposite())
	switch {
	case difference.negative():
		return -1, api.OK
	case difference == wide{}:
		return 0, api.OK
	}
	return 1, api.OK
}

// Add returns the exact sum of two numbers.
func Add(a, b api.Number) (api.Number, api.Errno) {
	if !bothValid(a, b) {
		return api.Number{}, api.ErrRange
	}
	scale := max(a.Scale, b.Scale)
	return scaled(a, scale).plus(scaled(b, scale)).number(scale)
}

// Sub returns the exact difference of two numbers.
func Sub(a, b api.Number) (api.Number, api.Errno) {
	if !bothValid(a, b) {
		return api.Number{}, api.ErrRange
	}
	scale := max(a.Scale, b.Scale)
	return scaled(a, scale).plus(scaled(b, scale).opposite()).number(scale)
}

// Mul returns the exact product of two numbers.
func Mul(a, b api.Number) (api.Number, api.Errno) {
	if !bothValid(a, b) {
		return api.Number{}, api.ErrRange
	}
	scale := a.Scale + b.Scale
	if !isScale(scale) {
		return api.Number{}, api.ErrOverflow
	}
	high, low := bits.Mul64(magnitude(a.Int), magnitude(b.Int))
	return wide{high, low}.signed((a.Int < 0) != (b.Int < 0)).number(scale)
}

// Sum returns the exact sum of a list.
func Sum(l []api.Number) (api.Number, api.Errno) {
	if len(l) > api.MaxList {
		return api.Number{}, api.ErrLimit
	}
	scale := 0
	for _, n := range l {
		if e := Check(n); e != api.OK {
			return api.Number{}, e
		}
		scale = max(scale, n.Scale)
	}
	var sum wide
	for _, n := range l {
		sum = sum.plus(scaled(n, scale))
	}
	return sum.number(scale)
}

// Div returns a quotient with a scale, rounded half to even.
func Div(a, b api.Number, scale int) (api.Number, api.Errno) {
	if !bothValid(a, b) || !isScale(scale) {
		return api.Number{}, api.ErrRange
	}
	if b.Int == 0 {
		return api.Number{}, api.ErrDivide
	}
	q, ok := quotient(magnitude(a.Int), magnitude(b.Int), b.Scale+scale-a.Scale)
	if !ok {
		return api.Number{}, api.ErrOverflow
	}
	return wide{0, q}.signed((a.Int < 0) != (b.Int < 0)).number(scale)
}

// Round returns a number with a scale, rounded half to even.
func Round(n api.Number, scale int) (api.Number, api.Errno) {
	return Div(n, api.Number{Int: 1}, scale)
}
