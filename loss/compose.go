package loss

import (
	"cmp"
	"iter"
	"slices"

	"manifold/api"
	"manifold/expr"
	"manifold/mapping"
	"manifold/path"
	"manifold/schema"
	"manifold/value"
)

// Compose returns the mapping that does what a mapping to a type and then another one from this type do.
func Compose(first, second api.Mapping, mid api.Type) (api.Mapping, api.Errno) {
	if e := cmp.Or(mapping.Form(first), mapping.Form(second), checkRecord(mid), checkExprs(first), checkExprs(second)); e != api.OK {
		return api.Mapping{}, e
	}
	c := composition{first: first.Rules, mid: mid}
	for _, r := range first.Rules {
		p, _ := path.Parse(r.Target)
		c.targets = append(c.targets, p)
	}
	var m api.Mapping
	for _, r := range second.Rules {
		m.Rules = append(m.Rules, api.Rule{Target: r.Target, Expr: rewrite(r.Expr, c.replace)})
	}
	if c.err != api.OK {
		return api.Mapping{}, c.err
	}
	if e := checkExprs(m); e != api.OK {
		return api.Mapping{}, e
	}
	return mapping.Clone(m), api.OK
}

// checkExprs returns the first error of the expressions of a mapping.
func checkExprs(m api.Mapping) api.Errno {
	for _, r := range m.Rules {
		if e := expr.Check(r.Expr); e != api.OK {
			return e
		}
	}
	return api.OK
}

// rewrite returns a valid expression in which something else replaces all operations on paths. It shares memory with the expression.
func rewrite(e api.Expr, replace func(e api.Expr) api.Expr) api.Expr {
	switch e.Op {
	case api.OpPath, api.OpHas, api.OpSum:
		return replace(e)
	}
	args := make([]api.Expr, len(e.Args))
	for i, x := range e.Args {
		args[i] = rewrite(x, replace)
	}
	e.Args = args
	return e
}

// composition replaces paths into messages of a type by what a first mapping gives them, and keeps whether this is not possible.
type composition struct {
	first   []api.Rule
	targets [][]path.Part // of the rules
	mid     api.Type
	err     api.Errno
}

// substitute is the substitute of a path: an expression, or none, whose Op is 0.
type substitute struct {
	expr      api.Expr
	isPresent bool // it is never absent
}

// replace returns what replaces an operation on a path.
func (c *composition) replace(e api.Expr) api.Expr {
	s := c.substitute(e.Text)
	switch {
	case s.expr.Op == 0:
		c.err = api.ErrPath
	case e.Op == api.OpPath:
		return s.expr
	case s.expr.Op == api.OpPath:
		e.Text = s.expr.Text
	case e.Op == api.OpHas && s.isPresent:
		return constant(value.Bool(true))
	default:
		c.err = api.ErrPath
	}
	return e
}

func constant(v api.Value) api.Expr { return api.Expr{Op: api.OpValue, Value: []api.Value{v}} }

// substitute returns the substitute of a path of the second mapping.
func (c *composition) substitute(s string) substitute {
	l, _ := path.Parse(s)
	if l[0].Name != body {
		return substitute{}
	}
	p := l[1:]
	i := slices.IndexFunc(c.targets, func(target []path.Part) bool { return path.Covers(target, p) })
	if i < 0 {
		return c.fromDefault(p)
	}
	return c.fromRule(c.first[i].Expr, c.targets[i], p[len(c.targets[i]):])
}

// fromRule returns the substitute of the parts of a path behind a Target, to which a rule gives an expression.
func (c *composition) fromRule(e api.Expr, target, rest []path.Part) substitute {
	f := fieldAt(target, c.mid)
	isDefaulted := f.Need == api.Defaulted
	switch {
	case hasDefaulted(f.Type):
		return substitute{}
	case len(rest) == 0 && isDefaulted:
		return substitute{api.Expr{Op: api.OpElse, Args: []api.Expr{e, constant(f.Default[0])}}, true}
	case len(rest) == 0:
		return substitute{e, e.Op == api.OpValue}
	case e.Op == api.OpPath && !isDefaulted:
		return substitute{api.Expr{Op: api.OpPath, Text: e.Text + textBehind(rest)}, false}
	}
	return substitute{}
}

// fromDefault returns the substitute of a path that no rule gives an expression.
func (c *composition) fromDefault(p []path.Part) substitute {
	for n, f := range fieldsOn(p, c.mid) {
		isMade := slices.ContainsFunc(c.targets, func(target []path.Part) bool { return path.Covers(p[:n], target) })
		switch {
		case f.Need == api.Optional && !isMade:
			return substitute{}
		case f.Need == api.Defaulted && !isMade:
			return valueIn(f.Default[0], p[n:])
		}
	}
	return substitute{}
}

// valueIn returns the constant that a default has at the rest of a path.
func valueIn(v api.Value, rest []path.Part) substitute {
	if len(rest) > 0 {
		var e api.Errno
		if v, e = path.Get(v, rest); e != api.OK {
			return substitute{}
		}
	}
	return substitute{constant(v), true}
}

// fieldAt returns the field to which a path leads in a valid type, or a zero one.
func fieldAt(p []path.Part, t api.Type) api.TypeField {
	for n, f := range fieldsOn(p, t) {
		if n == len(p) {
			return f
		}
	}
	return api.TypeField{}
}

// fieldsOn yields the fields on the way of a path into values of a valid type, each with the number of parts that lead to it.
func fieldsOn(p []path.Part, t api.Type) iter.Seq2[int, api.TypeField] {
	return func(yield func(int, api.TypeField) bool) {
		for i, part := range p {
			f, known := schema.Field(t, part.Name)
			switch {
			case known && part.Kind == path.Field && t.Kind == api.Record:
				if !yield(i+1, f) {
					return
				}
				t = f.Type
			case known && part.Kind == path.Case && t.Kind == api.Variant:
				t = f.Type
			case isElement(part, t):
				t = t.Elem[0]
			default:
				return
			}
		}
	}
}

// isElement reports whether a part leads from a type to the type of the elements of its lists.
func isElement(part path.Part, t api.Type) bool {
	return t.Kind == api.List && (part.Kind == path.All || part.Kind == path.Index && part.Index < t.Max)
}

// hasDefaulted reports whether a type contains a Defaulted field.
func hasDefaulted(t api.Type) bool {
	return slices.ContainsFunc(t.Elem, hasDefaulted) || slices.ContainsFunc(t.Fields, func(f api.TypeField) bool {
		return f.Need == api.Defaulted || hasDefaulted(f.Type)
	})
}
