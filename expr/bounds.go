package expr

import (
	"math/bits"
	"slices"

	"manifold/api"
)

// beyond is more than every bound of a type, and stays so when such a bound is subtracted. A product that is greater is replaced by it, because it will be clipped anyway.
const beyond = 1 << 60

// bounds are the least and the greatest value of a calculation, which may be out of range.
type bounds struct{ low, high int }

// product returns the product of two numbers, but at most beyond.
func product(a, b int) int {
	high, low := bits.Mul64(magnitude(a), magnitude(b))
	if high > 0 || low > beyond {
		low = beyond
	}
	if (a < 0) != (b < 0) {
		return -int(low)
	}
	return int(low)
}

func magnitude(n int) uint64 {
	if n < 0 {
		return -uint64(n)
	}
	return uint64(n)
}

// power returns 10^k, but at most beyond.
func power(k int) int {
	n := 1
	for range k {
		n = product(n, 10)
	}
	return n
}

// times returns bounds multiplied by a number that is not negative.
func (b bounds) times(n int) bounds { return bounds{product(b.low, n), product(b.high, n)} }

// brought returns the bounds of a number type at a scale that is not less than its own.
func brought(t api.Type, scale int) bounds { return bounds{t.Min, t.Max}.times(power(scale - t.Scale)) }

// clipped returns the result for a number with calculated bounds, whose operation never fails if they are in range.
func clipped(kind, scale int, b bounds) Result {
	t := api.Type{Kind: kind, Min: clip(b.low), Max: clip(b.high), Scale: scale}
	return Result{Type: t, Total: b == bounds{t.Min, t.Max}}
}

func clip(n int) int { return min(max(n, -api.MaxNumber), api.MaxNumber) }

func haveNumbers(args []Result) bool {
	return every(args, func(t api.Type) bool { return isNumber(t.Kind) })
}

// scaled returns the rule of an operation with two numbers, whose bounds a function combines at the greater scale.
func scaled(combine func(a, b bounds) bounds) rule {
	return func(f *inference, e api.Expr, args []Result) Result {
		if !haveNumbers(args) {
			return f.fail(api.ErrType)
		}
		a, b := args[0].Type, args[1].Type
		scale := max(a.Scale, b.Scale)
		return clipped(numberKind(a.Kind, b.Kind), scale, combine(brought(a, scale), brought(b, scale)))
	}
}

func (f *inference) multiply(e api.Expr, args []Result) Result {
	if !haveNumbers(args) {
		return f.fail(api.ErrType)
	}
	a, b := args[0].Type, args[1].Type
	scale := a.Scale + b.Scale
	if scale > api.MaxScale {
		return f.fail(api.ErrOverflow)
	}
	corners := []int{product(a.Min, b.Min), product(a.Min, b.Max), product(a.Max, b.Min), product(a.Max, b.Max)}
	return clipped(numberKind(a.Kind, b.Kind), scale, bounds{slices.Min(corners), slices.Max(corners)})
}

func (f *inference) divide(e api.Expr, args []Result) Result {
	if !haveNumbers(args) {
		return f.fail(api.ErrType)
	}
	a, b := args[0].Type, args[1].Type
	most := product(max(a.Max, -a.Min), power(max(0, e.Int+b.Scale-a.Scale)))
	r := clipped(api.Decimal, e.Int, bounds{-most, most})
	r.Total = r.Total && (b.Min > 0 || b.Max < 0)
	return r
}

func (f *inference) negate(e api.Expr, args []Result) Result {
	t := args[0].Type
	if !isNumber(t.Kind) {
		return f.fail(api.ErrType)
	}
	t.Min, t.Max = -t.Max, -t.Min
	return total(t)
}
