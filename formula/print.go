package formula

import (
	"slices"
	"strconv"
	"strings"

	"manifold/api"
	"manifold/expr"
	"manifold/literal"
)

// Print returns the canonical text of an expression.
func Print(x api.Expr) (string, api.Errno) {
	if e := expr.Check(x); e != api.OK {
		return "", e
	}
	if slices.ContainsFunc(expr.Paths(x), beginsReserved) {
		return "", api.ErrName
	}
	return text(x), api.OK
}

// beginsReserved reports whether a path begins with a reserved word.
func beginsReserved(p string) bool {
	if i := strings.IndexAny(p, ".[?"); i >= 0 {
		p = p[:i]
	}
	return isReserved(p)
}

// text returns the text of an expression that has one.
func text(x api.Expr) string {
	n := notations[x.Op]
	switch x.Op {
	case api.OpValue:
		s, _ := literal.Text(x.Value[0])
		return s
	case api.OpPath:
		return x.Text
	case api.OpNot:
		return n.text + " " + argument(x.Args[0], n.binding)
	case api.OpNegate:
		return n.text + negated(x.Args[0])
	case api.OpIn:
		return argument(x.Args[0], elseBinding) + " in (" + strings.Join(texts(x.Args[1:]), ", ") + ")"
	}
	switch n.binding {
	case primaryBinding:
		return n.text + "(" + strings.Join(callTexts(x), ", ") + ")"
	case comparisonBinding:
		return argument(x.Args[0], elseBinding) + " " + n.text + " " + argument(x.Args[1], elseBinding)
	}
	return argument(x.Args[0], n.binding) + " " + n.text + " " + argument(x.Args[1], n.binding+1)
}

// argument returns the text of an argument at a place where a binding is needed.
func argument(x api.Expr, needed int) string {
	if notations[x.Op].binding < needed {
		return "(" + text(x) + ")"
	}
	return text(x)
}

// negated returns the text of the argument of OpNegate. A number directly behind the hyphen would be read as a negative number.
func negated(x api.Expr) string {
	if x.Op == api.OpValue && (x.Value[0].Kind == api.Int || x.Value[0].Kind == api.Decimal) {
		return "(" + text(x) + ")"
	}
	return argument(x, primaryBinding)
}

func texts(l []api.Expr) []string {
	var out []string
	for _, x := range l {
		out = append(out, text(x))
	}
	return out
}

// callTexts returns what stands between the parentheses of a call.
func callTexts(x api.Expr) []string {
	l := texts(x.Args)
	if x.Text != "" {
		l = append(l, x.Text)
	}
	if x.Op == api.OpDivide || x.Int != 0 {
		l = append(l, strconv.Itoa(x.Int))
	}
	return l
}
