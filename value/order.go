package value

import (
	"cmp"
	"slices"

	"manifold/api"
)

// Equal reports whether two values are equal.
func Equal(a, b api.Value) bool { return Compare(a, b) == 0 }

// Compare orders values by the first difference of their fields.
func Compare(a, b api.Value) int {
	return lexicographic(a, b,
		func(a, b api.Value) int { return cmp.Compare(a.Kind, b.Kind) },
		func(a, b api.Value) int { return cmp.Compare(a.Int, b.Int) },
		func(a, b api.Value) int { return cmp.Compare(a.Scale, b.Scale) },
		func(a, b api.Value) int { return cmp.Compare(a.Text, b.Text) },
		func(a, b api.Value) int { return slices.CompareFunc(a.List, b.List, Compare) },
		func(a, b api.Value) int { return slices.CompareFunc(a.Fields, b.Fields, compareFields) },
	)
}

func compareFields(a, b api.Field) int {
	return lexicographic(a, b,
		func(a, b api.Field) int { return cmp.Compare(a.Name, b.Name) },
		func(a, b api.Field) int { return Compare(a.Value, b.Value) },
	)
}

// lexicographic returns the first result of some comparisons that is not 0, or 0. The comparisons are functions because those behind the first difference, which may be long, need not be made.
func lexicographic[T any](a, b T, comparisons ...func(a, b T) int) int {
	for _, compare := range comparisons {
		if order := compare(a, b); order != 0 {
			return order
		}
	}
	return 0
}
