package loss_test

import (
	"math/rand"
	"slices"
	"strings"

	"manifold/api"
	"manifold/expr"
	"manifold/schema"
	"manifold/value"
)

// This file makes random types, values and mappings.

// some returns a valid type with at most a number of levels.
func some(r *rand.Rand, levels int) T {
	kind := 1 + r.Intn(12)
	if levels == 1 {
		kind = 1 + r.Intn(7)
	}
	least := r.Intn(3)
	x := T{Kind: min(kind, api.Variant), Min: least, Max: least + r.Intn(3)}
	switch kind {
	case api.Bool:
		return flag
	case api.Decimal:
		x.Scale = r.Intn(3)
	case api.List:
		x.Elem = []T{some(r, levels-1)}
	case api.Variant:
		return someFields(r, levels, api.Variant)
	case api.Record, 11, 12:
		return someFields(r, levels, api.Record)
	}
	return x
}

func someFields(r *rand.Rand, levels, kind int) T {
	var l []F
	numbers := r.Perm(9)
	for n, i := range r.Perm(4)[:1+r.Intn(4)] {
		f := with(1+numbers[n], required("abcd"[i:i+1], some(r, levels-1)))
		if kind == api.Record {
			f = needed(r, f)
		}
		l = append(l, f)
	}
	if kind == api.Record && r.Intn(12) == 0 {
		l = nil
	}
	return T{Kind: kind, Fields: l}
}

// needed returns a field with some need, which is more often Required or Optional than Defaulted.
func needed(r *rand.Rand, f F) F {
	f.Need = []int{api.Required, api.Required, api.Optional, api.Optional, api.Defaulted}[r.Intn(5)]
	if f.Need == api.Defaulted {
		f.Default = []V{oneOf(r, f.Type)}
	}
	return f
}

// oneOf returns a value that fits a valid type.
func oneOf(r *rand.Rand, t T) V {
	v := V{Kind: t.Kind}
	n := t.Min + r.Intn(t.Max-t.Min+1)
	switch t.Kind {
	case api.Bool:
		v.Int = r.Intn(2)
	case api.Text, api.Bytes:
		v.Text = strings.Repeat([]string{"a", "B"}[r.Intn(2)], n)
		if len(t.Words) > 0 {
			v.Text = t.Words[r.Intn(len(t.Words))]
		}
	case api.List:
		for range n {
			v.List = append(v.List, oneOf(r, t.Elem[0]))
		}
	case api.Record:
		var l []api.Field
		for _, f := range t.Fields {
			if f.Need != api.Optional || r.Intn(2) == 0 {
				l = append(l, field(f.Name, oneOf(r, f.Type)))
			}
		}
		v = value.Record(l...)
	case api.Variant:
		f := t.Fields[r.Intn(len(t.Fields))]
		v = value.Variant(f.Name, oneOf(r, f.Type))
	default:
		v.Int, v.Scale = n, t.Scale
	}
	return v
}

// maker makes random mappings from environments of a type.
type maker struct {
	r     *rand.Rand
	env   T
	paths map[int][]string // by the kinds to which they lead
}

func newMaker(r *rand.Rand, env T) maker {
	m := maker{r: r, env: env, paths: map[int][]string{}}
	m.visit(m.env, "")
	delete(m.paths, 0)
	return m
}

func (m maker) visit(t T, s string) {
	m.paths[t.Kind] = append(m.paths[t.Kind], strings.TrimPrefix(s, "."))
	for _, f := range t.Fields {
		mark := "."
		if t.Kind == api.Variant {
			mark = "?"
		}
		m.visit(f.Type, s+mark+f.Name)
	}
	if t.Kind == api.List {
		for _, index := range []string{"[0]", "[1]", "[*]"} {
			m.visit(t.Elem[0], s+index)
		}
	}
}

// path returns a path to a kind of values, with a part [*] or without one, or seldom another one.
func (m maker) path(kind int, all bool) string {
	l := slices.DeleteFunc(slices.Clone(m.paths[kind]), func(s string) bool { return s == "" || strings.Contains(s, "[*]") != all })
	if len(l) == 0 || m.r.Intn(60) == 0 {
		return []string{"body.zz", "body", "key", "body[0]", "body..a"}[m.r.Intn(5)]
	}
	return l[m.r.Intn(len(l))]
}

// kind returns a kind of values that there are in the environment.
func (m maker) kind() int {
	var l []int
	for kind := range m.paths {
		l = append(l, kind)
	}
	slices.Sort(l)
	return l[m.r.Intn(len(l))]
}

// make returns an expression that usually has a value of a kind.
func (m maker) make(kind, levels int) E {
	r := m.r
	switch {
	case r.Intn(5) == 0 && kind <= api.Time:
		return lit(oneOf(r, T{Kind: kind, Max: 1}))
	case levels == 1 || r.Intn(3) > 0:
		return at(m.path(kind, false))
	case r.Intn(3) == 0:
		return op(api.OpElse, m.make(kind, levels-1), m.make(kind, levels-1))
	}
	switch kind {
	case api.Bool:
		return []E{has(m.path(m.kind(), false)), op(api.OpNot, m.make(api.Bool, levels-1)), op(api.OpLess, m.make(api.Int, levels-1), m.make(api.Decimal, levels-1))}[r.Intn(3)]
	case api.Int:
		return []E{sum(m.path(api.Int, true), 0), op(api.OpLength, m.make(api.List, levels-1)), op(api.OpAdd, m.make(api.Int, levels-1), m.make(api.Int, levels-1))}[r.Intn(3)]
	case api.Decimal:
		return []E{sum(m.path(api.Decimal, true), 2), divide(m.make(api.Decimal, levels-1), m.make(api.Int, levels-1), 1), op(api.OpMultiply, m.make(api.Decimal, levels-1), m.make(api.Int, levels-1))}[r.Intn(3)]
	case api.Text:
		return []E{op(api.OpUpper, m.make(api.Text, levels-1)), op(api.OpConcat, m.make(api.Text, levels-1), m.make(api.Text, levels-1)), op(api.OpText, m.make(1+r.Intn(7), levels-1))}[r.Intn(3)]
	}
	return at(m.path(kind, false))
}

// fields returns fields of a record type with at most a number of levels, and adds rules for most of them.
func (m maker) fields(levels int, prefix string, rules *[]api.Rule) []F {
	r := m.r
	var l []F
	for n, i := range r.Perm(4)[:1+r.Intn(4)] {
		name := "abcd"[i : i+1]
		f := with(n+1, required(name, flag))
		isGiven := false
		switch n := r.Intn(9); {
		case n == 0:
			f.Type = some(r, 2)
		case n < 4 && levels > 1:
			f.Type = record(m.fields(levels-1, prefix+name+".", rules)...)
		default:
			e := m.make(m.kind(), 1+r.Intn(3))
			f.Type, isGiven = m.resultOf(e), true
			*rules = append(*rules, api.Rule{Target: prefix + name, Expr: e})
		}
		if f = needed(r, f); f.Need == api.Required && (!isGiven || r.Intn(3) > 0) {
			f.Need = api.Optional
		}
		l = append(l, f)
	}
	return l
}

// resultOf returns the type of the results of an expression, or another one.
func (m maker) resultOf(e E) T {
	known, failure := expr.Infer(e, m.env)
	if failure != api.OK || m.r.Intn(20) == 0 {
		return some(m.r, 2)
	}
	return known.Type
}

// someMapping returns a mapping and the type of its results, in which there are sometimes fewer fields or rules.
func (m maker) someMapping() (M, T) {
	r := m.r
	var l []api.Rule
	t := record(m.fields(3, "", &l)...)
	if r.Intn(8) == 0 && len(l) > 0 {
		i := r.Intn(len(l))
		l = slices.Delete(l, i, i+1)
	}
	if r.Intn(12) == 0 {
		i := r.Intn(len(t.Fields))
		t.Fields = slices.Delete(t.Fields, i, i+1)
	}
	r.Shuffle(len(l), func(i, j int) { l[i], l[j] = l[j], l[i] })
	return M{Rules: l}, t
}

// environment returns the type of an environment with messages of a type.
func environment(t T) T {
	return record(with(1, required("body", t)), with(2, optional("key", number(0, 3))))
}

// changed returns a type that differs from another one in something, or in nothing. It may not be valid.
func changed(r *rand.Rand, t T) T {
	t = schema.Clone(t)
	x := &t
	for r.Intn(3) > 0 {
		if n := len(x.Fields); n > 0 {
			x = &x.Fields[r.Intn(n)].Type
		} else if len(x.Elem) > 0 {
			x = &x.Elem[0]
		}
	}
	n := len(x.Fields)
	switch r.Intn(7) {
	case 0:
		*x = some(r, 2)
	case 1:
		x.Max += r.Intn(2)
	case 2:
		x.Min -= r.Intn(2)
	case 3:
		x.Fields = append(x.Fields, with(20+r.Intn(3), optional("x", flag)))
	case 4, 5:
		if n > 0 {
			i := r.Intn(n)
			x.Fields = slices.Delete(x.Fields, i, i+1)
		}
	case 6:
		if n > 0 {
			x.Fields[r.Intn(n)].Name = "y"
		}
	}
	return t
}
