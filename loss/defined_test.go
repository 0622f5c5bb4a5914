package loss_test

import (
	"slices"
	"strings"

	"manifold/api"
	"manifold/expr"
	"manifold/mapping"
	"manifold/path"
	"manifold/schema"
)

// This file has the functions in the words of the document.

func parsed(s string) []path.Part {
	l, _ := path.Parse(s)
	return l
}

// textOf returns the text of a path, which is also that of a leaf that begins with an element or a case.
func textOf(l []path.Part) string {
	s := ""
	for _, p := range l {
		switch p.Kind {
		case path.Field:
			s += "." + p.Name
		case path.Case:
			s += "?" + p.Name
		case path.All:
			s += "[*]"
		}
	}
	return strings.TrimPrefix(s, ".")
}

func touching(a, b []path.Part) bool {
	for i := range min(len(a), len(b)) {
		kinds := []int{a[i].Kind, b[i].Kind}
		slices.Sort(kinds)
		if a[i] != b[i] && !slices.Equal(kinds, []int{path.Index, path.All}) {
			return false
		}
	}
	return true
}

func begins(a, b []path.Part) bool { return len(a) <= len(b) && slices.Equal(a, b[:len(a)]) }

// dependsOn reports whether one of paths makes a mapping depend on a leaf of a type at a path.
func dependsOn(paths []string, from, leaf []path.Part) bool {
	return slices.ContainsFunc(paths, func(s string) bool {
		p := parsed(s)
		return begins(p, from) || begins(from, p) && touching(p[len(from):], leaf)
	})
}

// chosen returns the texts of the leaves of a type that are wanted.
func chosen(t T, wanted func(leaf []path.Part) bool) []string {
	var l []string
	for _, leaf := range schema.Leaves(t) {
		if wanted(leaf) {
			l = append(l, textOf(leaf))
		}
	}
	return l
}

func lostAsDefined(m M, t T, from string) []string {
	return chosen(t, func(leaf []path.Part) bool { return !dependsOn(mapping.Sources(m), parsed(from), leaf) })
}

func keptAsDefined(m M, t T, from string) []string {
	return chosen(t, func(leaf []path.Part) bool { return dependsOn(mapping.Sources(m), parsed(from), leaf) })
}

// isDropped reports whether a leaf of an old type is dropped by a new one.
func isDropped(old, new T, leaf []path.Part) bool {
	if len(leaf) == 0 || old.Kind != new.Kind {
		return false
	}
	if old.Kind == api.List {
		return isDropped(old.Elem[0], new.Elem[0], leaf[1:])
	}
	for _, f := range old.Fields {
		if f.Name != leaf[0].Name {
			continue
		}
		for _, g := range new.Fields {
			if g.Number == f.Number {
				return isDropped(f.Type, g.Type, leaf[1:])
			}
		}
	}
	return old.Kind == api.Record
}

func droppedAsDefined(old, new T) []string {
	return chosen(old, func(leaf []path.Part) bool { return isDropped(old, new, leaf) })
}

// isNeeded reports whether a leaf of the first type of a chain is needed.
func isNeeded(l []M, types []T, leaf []path.Part) bool {
	if len(l) == 0 {
		return true
	}
	for _, next := range schema.Leaves(types[1]) {
		if !isNeeded(l[1:], types[1:], next) {
			continue
		}
		for _, r := range l[0].Rules {
			if touching(parsed(r.Target), next) && dependsOn(expr.Paths(r.Expr), parsed("body"), leaf) {
				return true
			}
		}
	}
	return false
}

func chainAsDefined(l []M, types []T) []string {
	return chosen(types[0], func(leaf []path.Part) bool { return !isNeeded(l, types, leaf) })
}

// fieldOf returns the field of a type at a path.
func fieldOf(t T, l []path.Part) (F, bool) {
	last := l[len(l)-1]
	if len(l) > 1 {
		var e api.Errno
		if t, _, e = schema.At(t, l[:len(l)-1]); e != api.OK {
			return F{}, false
		}
	}
	if t.Kind != api.Record || last.Kind != path.Field {
		return F{}, false
	}
	return schema.Field(t, last.Name)
}

func containsDefaulted(t T) bool {
	for _, f := range t.Fields {
		if f.Need == api.Defaulted || containsDefaulted(f.Type) {
			return true
		}
	}
	return len(t.Elem) > 0 && containsDefaulted(t.Elem[0])
}

// impossible is the panic with which composing ends.
type impossible struct{}

// substituteAsDefined returns the substitute of a path, and whether it is the OpElse of a Defaulted field.
func substituteAsDefined(first M, mid T, s string) (E, bool) {
	p, is := strings.CutPrefix(s, "body.")
	if !is {
		panic(impossible{})
	}
	for _, r := range first.Rules {
		rest, is := strings.CutPrefix(p, r.Target)
		if !is || rest != "" && !strings.ContainsAny(rest[:1], ".[?") {
			continue
		}
		f, _ := fieldOf(mid, parsed(r.Target))
		isDefaulted := f.Need == api.Defaulted
		switch {
		case containsDefaulted(f.Type) || rest != "" && (isDefaulted || r.Expr.Op != api.OpPath):
			panic(impossible{})
		case rest != "":
			return at(r.Expr.Text + rest), false
		case isDefaulted:
			return orElse(r.Expr, f.Default[0]), true
		}
		return r.Expr, false
	}
	return defaultAsDefined(first, mid, parsed(p)), false
}

func defaultAsDefined(first M, mid T, p []path.Part) E {
	isTarget := func(l []path.Part) bool {
		return slices.ContainsFunc(first.Rules, func(r api.Rule) bool { return begins(l, parsed(r.Target)) })
	}
	for n := 1; n <= len(p); n++ {
		f, is := fieldOf(mid, p[:n])
		is = is && f.Need == api.Defaulted && !isTarget(p[:n])
		for i := 1; i < n; i++ {
			g, known := fieldOf(mid, p[:i])
			is = is && !(known && g.Need == api.Optional && !isTarget(p[:i]))
		}
		switch {
		case is && n == len(p):
			return lit(f.Default[0])
		case is:
			v, e := path.Get(f.Default[0], p[n:])
			if e != api.OK {
				panic(impossible{})
			}
			return lit(v)
		}
	}
	panic(impossible{})
}

// composedAsDefined returns an expression in which substitutes replace the paths.
func composedAsDefined(first M, mid T, e E) E {
	if e.Text == "" {
		var l []E
		for _, x := range e.Args {
			l = append(l, composedAsDefined(first, mid, x))
		}
		e.Args = l
		return e
	}
	x, isElse := substituteAsDefined(first, mid, e.Text)
	switch {
	case e.Op == api.OpPath:
		return x
	case x.Op == api.OpPath:
		e.Text = x.Text
		return e
	case e.Op == api.OpHas && (x.Op == api.OpValue || isElse):
		return lit(V{Kind: api.Bool, Int: 1})
	}
	panic(impossible{})
}

func composeAsDefined(first, second M, mid T) (m M, e api.Errno) {
	for _, l := range []M{first, second} {
		for _, r := range l.Rules {
			if e := expr.Check(r.Expr); e != api.OK {
				return M{}, e
			}
		}
	}
	defer func() {
		if x := recover(); x != nil {
			m, e = M{}, api.ErrPath
			if _, is := x.(impossible); !is {
				panic(x)
			}
		}
	}()
	for _, r := range second.Rules {
		m.Rules = append(m.Rules, api.Rule{Target: r.Target, Expr: composedAsDefined(first, mid, r.Expr)})
	}
	for _, r := range m.Rules {
		if e := expr.Check(r.Expr); e != api.OK {
			return M{}, e
		}
	}
	return m, api.OK
}
