package expr

import (
	"math"
	"slices"

	"manifold/api"
	"manifold/path"
	"manifold/value"
)

// Check returns the first error of the structure of an expression.
func Check(e api.Expr) api.Errno {
	visited := 0
	for level, x := range preorder(e) {
		switch {
		case visited == MaxSize:
			return api.ErrLimit
		case level > api.MaxDepth:
			return api.ErrDepth
		case x.Op < 1 || x.Op > api.NumOps:
			return api.ErrKind
		}
		if failure := checkAlone(x); failure != api.OK {
			return failure
		}
		visited++
	}
	return api.OK
}

// checkAlone returns the first error of an expression apart from its arguments.
func checkAlone(x api.Expr) api.Errno {
	least, most := arity(x.Op)
	switch {
	case hasUnused(x):
		return api.ErrFormat
	case len(x.Args) < least:
		return api.ErrShort
	case len(x.Args) > most:
		return api.ErrFormat
	}
	switch x.Op {
	case api.OpValue:
		return checkValue(x.Value)
	case api.OpPath, api.OpHas:
		return checkPath(x.Text, false)
	case api.OpDivide:
		return checkScale(x.Int)
	case api.OpSum:
		if failure := checkPath(x.Text, true); failure != api.OK {
			return failure
		}
		return checkScale(x.Int)
	}
	return api.OK
}

// arity returns the least and the greatest number of arguments of an operation.
func arity(op int) (least, most int) {
	switch op {
	case api.OpValue, api.OpPath, api.OpHas, api.OpSum:
		return 0, 0
	case api.OpNot, api.OpNegate, api.OpLength, api.OpLower, api.OpUpper, api.OpText, api.OpNumber:
		return 1, 1
	case api.OpSlice, api.OpIf:
		return 3, 3
	case api.OpIn:
		return 2, math.MaxInt
	}
	return 2, 2
}

func usesText(op int) bool { return op == api.OpPath || op == api.OpHas || op == api.OpSum }
func usesInt(op int) bool  { return op == api.OpDivide || op == api.OpSum }

// hasUnused reports whether an expression has a field that its operation does not use.
func hasUnused(x api.Expr) bool {
	return len(x.Value) > 0 && x.Op != api.OpValue || x.Text != "" && !usesText(x.Op) || x.Int != 0 && !usesInt(x.Op)
}

func checkValue(l []api.Value) api.Errno {
	switch {
	case len(l) == 0:
		return api.ErrShort
	case len(l) > 1:
		return api.ErrFormat
	}
	if failure := value.Check(l[0]); failure != api.OK {
		return failure
	}
	if l[0].Kind > api.Time {
		return api.ErrType
	}
	return api.OK
}

// checkPath checks a path which has to have a part for all elements, or must not have one.
func checkPath(s string, all bool) api.Errno {
	l, failure := path.Parse(s)
	if failure != api.OK {
		return failure
	}
	if slices.Contains(l, path.Part{Kind: path.All}) != all {
		return api.ErrPath
	}
	return api.OK
}

func checkScale(scale int) api.Errno {
	if scale < 0 || scale > api.MaxScale {
		return api.ErrRange
	}
	return api.OK
}
