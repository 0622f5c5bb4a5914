package decimal

import (
	"math/bits"

	"manifold/api"
)

// wide is an integer of 128 bits in two's complement: numbers that are brought to the same scale have up to 90 bits, and a sum of api.MaxList of them up to 98.
type wide struct{ high, low uint64 }

func (w wide) negative() bool { return w.high>>63 == 1 }

func (w wide) opposite() wide {
	low, borrow := bits.Sub64(0, w.low, 0)
	high, _ := bits.Sub64(0, w.high, borrow)
	return wide{high, low}
}

func (w wide) plus(v wide) wide {
	low, carry := bits.Add64(w.low, v.low, 0)
	high, _ := bits.Add64(w.high, v.high, carry)
	return wide{high, low}
}

// signed gives an integer that is not negative a sign.
func (w wide) signed(negative bool) wide {
	if negative {
		return w.opposite()
	}
	return w
}

// number returns the number with a scale whose Int is w.
func (w wide) number(scale int) (api.Number, api.Errno) {
	size := w.signed(w.negative())
	if size.high != 0 || size.low > api.MaxNumber {
		return api.Number{}, api.ErrOverflow
	}
	n := api.Number{Int: int(size.low), Scale: scale}
	if w.negative() {
		n.Int = -n.Int
	}
	return n, api.OK
}

// scaled returns the Int of a number that is brought to a scale, which is not less than its own one.
func scaled(n api.Number, scale int) wide {
	high, low := bits.Mul64(magnitude(n.Int), powers[scale-n.Scale])
	return wide{high, low}.signed(n.Int < 0)
}

func magnitude(n int) uint64 {
	if n < 0 {
		return uint64(-n)
	}
	return uint64(n)
}

// quotient returns x * 10^exponent / y, rounded half to even, and whether it is at most api.MaxNumber. Both x and y are at most that, and y is not 0.
func quotient(x, y uint64, exponent int) (q uint64, ok bool) {
	if exponent < 0 {
		high, low := bits.Mul64(y, powers[-exponent])
		if high > 0 {
			// The divisor has more than 64 bits and x at most 50: the quotient is nearest to 0.
			return 0, true
		}
		return divideEven(0, x, low)
	}
	first := min(exponent, api.MaxScale)
	high, low := bits.Mul64(x, powers[first])
	high, low, ok = multiply(high, low, powers[exponent-first])
	// Without room in 128 bits, or in 64 for the quotient, the result is far above api.MaxNumber, since y is not.
	if !ok || high >= y {
		return 0, false
	}
	return divideEven(high, low, y)
}

// multiply returns the product of an integer of 128 bits and one of 64, and whether it has at most 128 bits.
func multiply(high, low, factor uint64) (productHigh, productLow uint64, ok bool) {
	over, middle := bits.Mul64(high, factor)
	carried, last := bits.Mul64(low, factor)
	middle, carry := bits.Add64(middle, carried, 0)
	return middle, last, over == 0 && carry == 0
}

// divideEven divides an integer of 128 bits, whose upper half is less than y, rounds half to even, and reports whether the result is at most api.MaxNumber.
func divideEven(high, low, y uint64) (q uint64, ok bool) {
	q, rest := bits.Div64(high, low, y)
	// Rounding never makes a quotient less, and one of 2^64-1 would become 0.
	if q > api.MaxNumber {
		return 0, false
	}
	// Twice the rest might not have room in 64 bits, so it is compared with what lacks to y.
	lack := y - rest
	if rest > lack || rest == lack && q%2 == 1 {
		q++
	}
	return q, q <= api.MaxNumber
}
