package mapping_test

import (
	"fmt"
	"math/rand"
	"slices"
	"strings"
	"testing"

	"manifold/api"
	"manifold/expr"
	"manifold/fit"
	"manifold/mapping"
	"manifold/path"
	"manifold/schema"
	"manifold/value"
)

// some returns a valid type with at most a number of levels.
func some(r *rand.Rand, levels int) T {
	kind := 1 + r.Intn(10)
	if levels == 1 {
		kind = 1 + r.Intn(7)
	}
	least := r.Intn(3)
	x := T{Kind: kind, Min: least, Max: least + r.Intn(3)}
	switch kind {
	case api.Bool:
		return flag
	case api.Decimal:
		x.Scale = r.Intn(3)
	case api.Text:
		if r.Intn(3) == 0 {
			return T{Kind: api.Text, Words: [][]string{{""}, {"a", "b"}, {"a", "aa", "b"}}[r.Intn(3)]}
		}
	case api.List:
		x.Elem = []T{some(r, levels-1)}
	case api.Record, api.Variant:
		return someFields(r, levels, kind)
	}
	return x
}

func someFields(r *rand.Rand, levels, kind int) T {
	l := []F{}
	for _, i := range r.Perm(4)[:1+r.Intn(4)] {
		f := required("abcd"[i:i+1], some(r, levels-1))
		if kind == api.Record {
			f = needed(r, f)
		}
		l = append(l, f)
	}
	t := record(l...)
	t.Kind = kind
	return t
}

// needed returns a field with some need.
func needed(r *rand.Rand, f F) F {
	f.Need = 1 + r.Intn(3)
	if f.Need == api.Defaulted {
		f.Default = []V{oneOf(r, f.Type, true)}
	}
	return f
}

// oneOf returns a value that fits a valid type, or, if it is not full, one that fits with its defaults.
func oneOf(r *rand.Rand, t T, isFull bool) V {
	v := V{Kind: t.Kind}
	n := t.Min + r.Intn(t.Max-t.Min+1)
	switch t.Kind {
	case api.Bool:
		v.Int = r.Intn(2)
	case api.Text, api.Bytes:
		v.Text = strings.Repeat([]string{"a", "B"}[r.Intn(2)], n)
		if len(t.Words) > 0 {
			v.Text = t.Words[r.Intn(len(t.Words))]
		}
	case api.List:
		for range n {
			v.List = append(v.List, oneOf(r, t.Elem[0], isFull))
		}
	case api.Record:
		var l []api.Field
		for _, f := range t.Fields {
			if f.Need == api.Required || f.Need == api.Defaulted && isFull || r.Intn(2) == 0 {
				l = append(l, field(f.Name, oneOf(r, f.Type, isFull)))
			}
		}
		v = value.Record(l...)
	case api.Variant:
		f := t.Fields[r.Intn(len(t.Fields))]
		v = value.Variant(f.Name, oneOf(r, f.Type, isFull))
	default:
		v.Int, v.Scale = n, t.Scale
	}
	return v
}

// maker makes random expressions and types of results for environments of a type.
type maker struct {
	r     *rand.Rand
	env   T
	paths map[int][]string // by the kinds to which they lead
}

func newMaker(r *rand.Rand) maker {
	m := maker{r: r, env: record(needed(r, required("body", someFields(r, 4, api.Record))), optional("key", some(r, 2))), paths: map[int][]string{}}
	m.visit(m.env, "")
	return m
}

func (m maker) visit(t T, s string) {
	m.paths[t.Kind] = append(m.paths[t.Kind], strings.TrimPrefix(s, "."))
	for _, f := range t.Fields {
		mark := "."
		if t.Kind == api.Variant {
			mark = "?"
		}
		m.visit(f.Type, s+mark+f.Name)
	}
	if t.Kind == api.List {
		m.visit(t.Elem[0], s+[]string{"[0]", "[1]", "[*]"}[m.r.Intn(3)])
	}
}

// path returns a path to a kind of values, with a part [*] or without one.
func (m maker) path(kind int, all bool) string {
	l := slices.DeleteFunc(slices.Clone(m.paths[kind]), func(s string) bool { return s == "" || strings.Contains(s, "[*]") != all })
	if len(l) == 0 || m.r.Intn(40) == 0 {
		return []string{"body.zz", "body[*]", "body", "body..a"}[m.r.Intn(4)]
	}
	return l[m.r.Intn(len(l))]
}

// make returns an expression that usually has a value of a kind.
func (m maker) make(kind, levels int) E {
	r := m.r
	switch {
	case levels == 1 && r.Intn(3) == 0 && kind <= api.Time:
		return lit(oneOf(r, T{Kind: kind, Max: 1}, true))
	case levels == 1 || r.Intn(3) > 0:
		return at(m.path(kind, false))
	case r.Intn(3) == 0:
		return op(api.OpElse, m.make(kind, levels-1), m.make(kind, levels-1))
	}
	switch kind {
	case api.Bool:
		return []E{has(m.path(1+r.Intn(10), false)), op(api.OpNot, m.make(api.Bool, levels-1)), op(api.OpLess, m.make(api.Int, levels-1), m.make(api.Decimal, levels-1))}[r.Intn(3)]
	case api.Int:
		return []E{sum(m.path(api.Int, true), 0), op(api.OpLength, m.make(api.List, levels-1)), op(api.OpAdd, m.make(api.Int, levels-1), m.make(api.Int, levels-1)), op(api.OpNumber, m.make(api.Text, levels-1))}[r.Intn(4)]
	case api.Decimal:
		return []E{sum(m.path(api.Decimal, true), 2), divide(m.make(api.Decimal, levels-1), m.make(api.Int, levels-1), 1), op(api.OpMultiply, m.make(api.Decimal, levels-1), m.make(api.Int, levels-1))}[r.Intn(3)]
	case api.Text:
		return []E{op(api.OpUpper, m.make(api.Text, levels-1)), op(api.OpConcat, m.make(api.Text, levels-1), m.make(api.Text, levels-1)), op(api.OpText, m.make(1+r.Intn(7), levels-1))}[r.Intn(3)]
	}
	return at(m.path(kind, false))
}

// fields returns fields of a record type with at most a number of levels, and adds rules for some of them.
func (m maker) fields(levels int, at string, rules *[]api.Rule) []F {
	r := m.r
	var l []F
	for _, i := range r.Perm(3)[:r.Intn(4)] {
		name := "xyz"[i : i+1]
		f := required(name, flag)
		switch n := r.Intn(6); {
		case n == 0:
			f.Type = some(r, 2)
		case n < 3 && levels > 1:
			f.Type = record(m.fields(levels-1, at+name+".", rules)...)
		default:
			e := m.make(1+r.Intn(10), 1+r.Intn(3))
			f.Type = m.resultOf(e)
			*rules = append(*rules, api.Rule{Target: at + name, Expr: e})
		}
		if f = needed(r, f); f.Need == api.Required && r.Intn(3) == 0 {
			f.Need = api.Optional
		}
		l = append(l, f)
	}
	return l
}

// resultOf returns the type of the results of an expression, or another one.
func (m maker) resultOf(e E) T {
	r := m.r
	known, failure := expr.Infer(e, m.env)
	if failure != api.OK || r.Intn(12) == 0 {
		return some(r, 2)
	}
	t := known.Type
	if t.Kind == api.Int && r.Intn(5) == 0 {
		t.Min, t.Max = t.Min-r.Intn(2), t.Max+r.Intn(2)
	}
	return t
}

// someMapping returns a mapping and the type of its results.
func (m maker) someMapping() (M, T) {
	r := m.r
	var l []api.Rule
	t := record(m.fields(3, "", &l)...)
	if r.Intn(15) == 0 {
		l = append(l, api.Rule{Target: []string{"x", "x.y", "zz", "w", "x[0]", ""}[r.Intn(6)], Expr: m.make(api.Int, 2)})
	}
	if r.Intn(15) == 0 && len(l) > 0 {
		i := r.Intn(len(l))
		l = slices.Delete(l, i, i+1)
	}
	r.Shuffle(len(l), func(i, j int) { l[i], l[j] = l[j], l[i] })
	return M{Rules: l}, t
}

// shuffled returns a mapping with the same rules in another order.
func shuffled(r *rand.Rand, m M) M {
	m = mapping.Clone(m)
	r.Shuffle(len(m.Rules), func(i, j int) { m.Rules[i], m.Rules[j] = m.Rules[j], m.Rules[i] })
	return m
}

// TestP18_6Random compares Form, Check and Apply with what is defined, and with each other, for random mappings, types and values.
func TestP18_6Random(t *testing.T) {
	r := rand.New(rand.NewSource(1))
	checked, applied := map[api.Errno]int{}, map[api.Errno]int{}
	totals, records := 0, 0
	for range 2500 {
		k := newMaker(r)
		values := []V{oneOf(r, k.env, true), oneOf(r, k.env, true), oneOf(r, k.env, false)}
		for range 10 {
			m, target := k.someMapping()
			total, e := mapping.Check(m, k.env, target)
			if want, f := checkAsDefined(m, k.env, target); total != want || e != f {
				t.Fatalf("Check(%v, %v, %v) = %v, %d, want %v, %d", m, k.env, target, total, e, want, f)
			}
			if f := mapping.Form(m); f != formAsDefined(m) {
				t.Fatalf("Form(%v) = %d", m, f)
			}
			checked[e]++
			if total {
				totals++
			}
			expectSources(t, m)
			for i, v := range values {
				x, f := mapping.Apply(m, v, target)
				applied[f]++
				if want, g := applyAsDefined(m, v, target); !value.Equal(x, want) || f != g {
					t.Fatalf("Apply(%v, %v, %v) = %v, %d, want %v, %d", m, v, target, x, f, want, g)
				}
				if f == api.OK && (!fit.Fits(target, x) || value.Check(x) != api.OK) {
					t.Fatalf("Apply(%v, %v, %v) = %v", m, v, target, x)
				}
				if total && f != api.OK && i < 2 {
					t.Fatalf("Apply(%v, %v, %v): %d, but it is total", m, v, target, f)
				}
				if f == api.OK && len(x.Fields) > 1 {
					records++
				}
				expectAnyOrder(t, shuffled(r, m), v, target, x, f)
				expectIndependence(t, r, m, v, target, x, f)
			}
		}
	}
	for _, e := range []api.Errno{api.OK, api.ErrField, api.ErrType, api.ErrPath, api.ErrDuplicate, api.ErrShort, api.ErrSyntax} {
		if checked[e] < 50 {
			t.Errorf("%d mappings are checked with the error %d", checked[e], e)
		}
	}
	for _, e := range []api.Errno{api.OK, api.ErrType, api.ErrPath, api.ErrAbsent, api.ErrDivide, api.ErrSyntax} {
		if applied[e] < 10 {
			t.Errorf("%d mappings are applied with the error %d", applied[e], e)
		}
	}
	if totals < 2000 || records < 2000 {
		t.Error(totals, records)
	}
}

// expectAnyOrder checks that a mapping with its rules in another order makes the same, or fails as well.
func expectAnyOrder(t *testing.T, m M, env V, target T, want V, e api.Errno) {
	t.Helper()
	got, f := mapping.Apply(m, env, target)
	if !value.Equal(got, want) || (f == api.OK) != (e == api.OK) {
		t.Fatalf("Apply(%v, %v, %v) = %v, %d, and in another order %v, %d", m, env, target, got, f, want, e)
	}
}

// placesIn returns the paths to everything in a value, and to fields that its records do not have.
func placesIn(v V) []string {
	var l []string
	var visit func(v V, s string)
	visit = func(v V, s string) {
		l = append(l, strings.TrimPrefix(s, "."))
		for _, f := range v.Fields {
			visit(f.Value, s+"."+f.Name)
		}
		for i, x := range v.List {
			if v.Kind == api.Variant {
				visit(x, s+"?"+v.Text)
			} else {
				visit(x, fmt.Sprintf("%s[%d]", s, i))
			}
		}
		if v.Kind == api.Record {
			l = append(l, strings.TrimPrefix(s+".new", "."))
		}
	}
	visit(v, "")
	return l[1:] // without the path to all of it, which is empty
}

// isSource reports whether a path leads into a source or to something that contains one.
func isSource(p []path.Part, sources []string) bool {
	return slices.ContainsFunc(sources, func(s string) bool {
		for i, x := range parsed(s) {
			if i < len(p) && x != p[i] && !(x.Kind == path.All && p[i].Kind == path.Index) {
				return false
			}
		}
		return true
	})
}

// expectIndependence checks that a value that is at none of its sources does not change what a mapping makes.
func expectIndependence(t *testing.T, r *rand.Rand, m M, env V, target T, want V, e api.Errno) {
	t.Helper()
	sources := mapping.Sources(m)
	for _, s := range placesIn(env) {
		p := parsed(s)
		if isSource(p, sources) {
			continue
		}
		other, f := path.Set(env, p, oneOf(r, some(r, 2), true))
		if f != api.OK || value.Check(other) != api.OK {
			continue
		}
		if x, f := mapping.Apply(m, other, target); !value.Equal(x, want) || f != e {
			t.Fatalf("Apply(%v, %v, %v) = %v, %d, but %v, %d without the change at %s", m, other, target, x, f, want, e, s)
		}
	}
}

// damagedType returns a type in which anything may be wrong.
func damagedType(r *rand.Rand, t T) T {
	t = schema.Clone(t)
	x := &t
	for r.Intn(4) > 0 {
		if n := len(x.Fields); n > 0 {
			x = &x.Fields[r.Intn(n)].Type
		} else if len(x.Elem) > 0 {
			x = &x.Elem[0]
		}
	}
	n := len(x.Fields)
	switch r.Intn(7) {
	case 0:
		x.Kind = r.Intn(13) - 1
	case 1:
		x.Min, x.Max = x.Max, x.Min-1
	case 2:
		x.Elem = append(x.Elem, T{}, flag)[r.Intn(2):]
	case 3:
		x.Fields = append(x.Fields, required("x", flag), defaulted("x", number(0, 1), value.Int(1)), F{Name: ""})
	case 4, 5:
		if n > 0 {
			x.Fields[r.Intn(n)].Need = r.Intn(5)
		}
	case 6:
		if n > 0 {
			x.Fields[r.Intn(n)].Default = [][]V{nil, {{}}, {value.Int(1), value.Int(2)}, {value.Record()}}[r.Intn(4)]
		}
	}
	return t
}

// TestP18_3DamagedTypes compares Apply with what is defined for types that are not valid.
func TestP18_3DamagedTypes(t *testing.T) {
	r := rand.New(rand.NewSource(4))
	found := map[api.Errno]int{}
	for range 1000 {
		k := newMaker(r)
		for range 10 {
			m, target := k.someMapping()
			target = damagedType(r, target)
			if schema.Check(target) == api.OK {
				continue
			}
			env := oneOf(r, k.env, true)
			v, e := mapping.Apply(m, env, target)
			if want, f := applyAsDefined(m, env, target); !value.Equal(v, want) || e != f {
				t.Fatalf("Apply(%v, %v, %v) = %v, %d, want %v, %d", m, env, target, v, e, want, f)
			}
			found[e]++
			if total, e := mapping.Check(m, k.env, target); total || e == api.OK {
				t.Fatalf("Check(%v, %v, %v) = %v, %d", m, k.env, target, total, e)
			}
			mapping.Identity(target, "body")
		}
	}
	if found[api.OK] < 50 || found[api.ErrType] < 50 || found[api.ErrAbsent] < 50 {
		t.Error(found)
	}
}

// damaged returns a value in which anything may be wrong.
func damaged(r *rand.Rand, v V) V {
	v = value.Clone(v)
	x := &v
	for r.Intn(4) > 0 {
		if n := len(x.Fields); n > 0 {
			x = &x.Fields[r.Intn(n)].Value
		} else if n := len(x.List); n > 0 {
			x = &x.List[r.Intn(n)]
		}
	}
	odd := []int{-1, 0, 1, 7, 13, most + 1, -1 << 63, 1<<63 - 1}
	switch r.Intn(6) {
	case 0:
		x.Kind = r.Intn(13) - 1
	case 1:
		x.Int = odd[r.Intn(len(odd))]
	case 2:
		x.Scale = odd[r.Intn(len(odd))]
	case 3:
		x.Text = "\xFF"
	case 4:
		x.List = append(x.List, V{}, value.Int(1))
	case 5:
		x.Fields = append(x.Fields, field("", V{}), field("b", V{}), field("a", value.Text("x")))
	}
	return v
}

// TestP18_3DamagedValues checks only that there is an end: what is returned for such environments is not specified.
func TestP18_3DamagedValues(t *testing.T) {
	r := rand.New(rand.NewSource(5))
	for range 1000 {
		k := newMaker(r)
		env := oneOf(r, k.env, true)
		for range 10 {
			m, target := k.someMapping()
			env := damaged(r, env)
			for range r.Intn(3) {
				env = damaged(r, env)
			}
			if v, e := mapping.Apply(m, env, target); e != api.OK && !value.IsNull(v) || e == api.OK && !fit.Fits(target, v) {
				t.Fatalf("Apply(%v, %v, %v) = %v, %d", m, env, target, v, e)
			}
		}
	}
}

func TestP18_6Identity(t *testing.T) {
	r := rand.New(rand.NewSource(2))
	for range 5000 {
		x := someFields(r, 4, api.Record)
		m, e := mapping.Identity(x, "body.r")
		if e != api.OK {
			t.Fatalf("Identity(%v): %d", x, e)
		}
		env := record(required("body", record(required("r", x))))
		if total, e := mapping.Check(m, env, x); !total || e != api.OK {
			t.Fatalf("Check(Identity(%v)) = %v, %d", x, total, e)
		}
		v := oneOf(r, x, true)
		if got, e := mapping.Apply(m, value.Record(field("body", value.Record(field("r", v)))), x); !value.Equal(got, v) || e != api.OK {
			t.Fatalf("Apply(Identity(%v), %v) = %v, %d", x, v, got, e)
		}
		short := oneOf(r, x, false)
		want, e := fit.Complete(x, short)
		if got, f := mapping.Apply(m, value.Record(field("body", value.Record(field("r", short)))), x); e != api.OK || !value.Equal(got, want) || f != api.OK {
			t.Fatalf("Apply(Identity(%v), %v) = %v, %d", x, short, got, f)
		}
	}
}

// spoil overwrites all the memory of a value, also behind the ends of its slices.
func spoil(v V) {
	_, _ = append(v.List, V{Kind: -7}), append(v.Fields, field("spoiled", V{}))
	for i := range v.List {
		spoil(v.List[i])
		v.List[i] = V{Kind: -7}
	}
	for i := range v.Fields {
		spoil(v.Fields[i].Value)
		v.Fields[i] = field("spoiled", V{Kind: -7})
	}
}

func TestP18_6Memory(t *testing.T) {
	r := rand.New(rand.NewSource(3))
	for range 1000 {
		k := newMaker(r)
		env := oneOf(r, k.env, true)
		m, target := k.someMapping()
		image := func() string { return fmt.Sprintf("%#v %#v %#v %#v", m, k.env, target, env) }
		before := image()
		same := func(what string) {
			t.Helper()
			if image() != before {
				t.Fatalf("%s has changed its arguments: %s, before %s", what, image(), before)
			}
		}
		mapping.Form(m)
		mapping.Check(m, k.env, target)
		same("Check")
		v, _ := mapping.Apply(m, env, target)
		same("Apply")
		spoil(v)
		same("Apply")
		c := mapping.Clone(m)
		for i := range c.Rules {
			for _, x := range c.Rules[i].Expr.Value {
				spoil(x)
			}
			clear(c.Rules[i].Expr.Value)
			clear(c.Rules[i].Expr.Args)
		}
		clear(c.Rules)
		clear(mapping.Targets(m))
		clear(mapping.Sources(m))
		mapping.Identity(target, "body")
		same("Clone")
	}
}

// TestP18_6MemoryOfResult finds memory that rules with the same source share in a result.
func TestP18_6MemoryOfResult(t *testing.T) {
	of := list(0, 3, flag)
	l := at("body.l")
	target := record(optional("a", of), optional("b", of), optional("c", record(defaulted("d", of, value.List(value.Bool(true))))), optional("e", record(defaulted("d", of, value.List(value.Bool(true))))))
	v, e := mapping.Apply(rules(rule("a", l), rule("b", l), rule("c.x", at("body.none")), rule("e.x", at("body.none"))), environment(field("l", value.List(value.Bool(true)))), target)
	if e != api.OK || len(v.Fields) != 4 {
		t.Fatalf("Apply = %v, %d", v, e)
	}
	for i := range v.Fields {
		others := value.Clone(v)
		spoil(v.Fields[i].Value)
		for j := range v.Fields {
			if j > i && !value.Equal(v.Fields[j].Value, others.Fields[j].Value) {
				t.Errorf("the fields %d and %d share memory", i, j)
			}
		}
	}
	if !schema.Equal(target.Fields[0].Type, of) {
		t.Error("the type was modified")
	}
}
