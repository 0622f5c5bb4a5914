package expr

import "manifold/api"

func isNumber(kind int) bool { return kind == api.Int || kind == api.Decimal }

func areNumbers(a, b int) bool { return isNumber(a) && isNumber(b) }

// numberKind returns the kind of what is calculated from numbers of two kinds.
func numberKind(a, b int) int {
	if a == api.Int && b == api.Int {
		return api.Int
	}
	return api.Decimal
}

// areOrdered reports whether a value of one kind can be less than one of another kind.
func areOrdered(a, b int) bool {
	if areNumbers(a, b) {
		return true
	}
	return a == b && (a == api.Bool || a == api.Text || a == api.Date || a == api.Time)
}

// isAddend reports whether a sum with a scale can have numbers of a kind with a scale of its own.
func isAddend(kind, scale, ofSum int) bool {
	if ofSum == 0 {
		return kind == api.Int
	}
	return isNumber(kind) && scale <= ofSum
}

// sumKind returns the kind of a sum with a scale.
func sumKind(scale int) int {
	if scale == 0 {
		return api.Int
	}
	return api.Decimal
}
