package mapping_test

import (
	"slices"
	"strconv"
	"strings"
	"testing"

	"manifold/api"
	"manifold/expr"
	"manifold/mapping"
	"manifold/path"
	"manifold/value"
)

type (
	T = api.Type
	V = api.Value
	F = api.TypeField
	E = api.Expr
	M = api.Mapping
)

const most = api.MaxNumber

var flag = T{Kind: api.Bool}

func op(n int, l ...E) E               { return E{Op: n, Args: l} }
func at(s string) E                    { return E{Op: api.OpPath, Text: s} }
func has(s string) E                   { return E{Op: api.OpHas, Text: s} }
func lit(v V) E                        { return E{Op: api.OpValue, Value: []V{v}} }
func num(n int) E                      { return lit(value.Int(n)) }
func text(s string) E                  { return lit(value.Text(s)) }
func field(name string, v V) api.Field { return api.Field{Name: name, Value: v} }

func number(least, most int) T     { return T{Kind: api.Int, Min: least, Max: most} }
func texts(least, most int) T      { return T{Kind: api.Text, Min: least, Max: most} }
func list(least, most int, t T) T  { return T{Kind: api.List, Min: least, Max: most, Elem: []T{t}} }
func amount(scale, min, max int) T { return T{Kind: api.Decimal, Scale: scale, Min: min, Max: max} }
func required(name string, t T) F  { return F{Name: name, Need: api.Required, Type: t} }
func optional(name string, t T) F  { return F{Name: name, Need: api.Optional, Type: t} }
func divide(a, b E, scale int) E   { return E{Op: api.OpDivide, Int: scale, Args: []E{a, b}} }
func sum(s string, scale int) E    { return E{Op: api.OpSum, Text: s, Int: scale} }
func rule(target string, e E) M    { return M{Rules: []api.Rule{{Target: target, Expr: e}}} }
func environment(l ...api.Field) V { return value.Record(field("body", value.Record(l...))) }
func defaulted(n string, t T, v V) F {
	return F{Name: n, Need: api.Defaulted, Type: t, Default: []V{v}}
}

// record returns the type of a record, whose fields are numbered in their order.
func record(l ...F) T {
	for i := range l {
		l[i].Number = i + 1
	}
	return T{Kind: api.Record, Fields: l}
}

func variant(l ...F) T {
	t := record(l...)
	t.Kind = api.Variant
	return t
}

// rules returns the mapping of the rules of several ones.
func rules(l ...M) M {
	var m M
	for _, x := range l {
		m.Rules = append(m.Rules, x.Rules...)
	}
	return m
}

// targets returns a mapping with these Targets.
func targets(l ...string) M {
	var m M
	for _, s := range l {
		m.Rules = append(m.Rules, api.Rule{Target: s, Expr: num(1)})
	}
	return m
}

// numbered returns a mapping with a number of different Targets.
func numbered(n int) M {
	var m M
	for i := range n {
		m = rules(m, targets("a"+strconv.Itoa(i/50)+".b"+strconv.Itoa(i)))
	}
	return m
}

func TestP18_1Form(t *testing.T) {
	name := strings.Repeat("n", api.MaxName)
	long := strings.Repeat(name+".", 6) // of 198 bytes
	parts := strings.Repeat("a.", path.MaxParts-1) + "a"
	for i, c := range []struct {
		m M
		e api.Errno
	}{
		{M{}, api.OK}, {targets("a"), api.OK}, {targets("a", "b"), api.OK}, {targets("b", "a"), api.OK}, {numbered(256), api.OK}, {numbered(257), api.ErrLimit}, {rules(targets(""), numbered(256)), api.ErrLimit}, {rules(targets("a", "a"), numbered(255)), api.ErrLimit},
		{targets(""), api.ErrShort}, {targets(long + "nn"), api.OK}, {targets(long + "nnn"), api.ErrLong}, {targets("a..b"), api.ErrSyntax}, {targets("a."), api.ErrSyntax}, {targets(".a"), api.ErrSyntax}, {targets("A"), api.ErrSyntax}, {targets("a b"), api.ErrSyntax}, {targets("[0]"), api.ErrSyntax}, {targets(name + "n"), api.ErrSyntax}, {targets(parts), api.OK}, {targets(parts + ".a"), api.ErrLimit}, {targets(parts + "[0]"), api.ErrLimit},
		{targets("a[0]"), api.ErrPath}, {targets("a[*]"), api.ErrPath}, {targets("a?b"), api.ErrPath}, {targets("a[0].b"), api.ErrPath}, {targets("a.b?c.d"), api.ErrPath}, {targets("a[256]"), api.ErrSyntax},
		{targets("a", "a"), api.ErrDuplicate}, {targets("a", "a.b"), api.ErrDuplicate}, {targets("a.b", "a"), api.ErrDuplicate}, {targets("a.b.c", "a"), api.ErrDuplicate}, {targets("a.b", "a.b.c"), api.ErrDuplicate}, {targets("x", "a.b", "y", "a.b"), api.ErrDuplicate},
		{targets("a", "ab"), api.OK}, {targets("ab", "a"), api.OK}, {targets("a.b", "a.c"), api.OK}, {targets("a.b", "a.bc"), api.OK}, {targets("a.b", "b.a"), api.OK}, {targets("a.b", "b"), api.OK}, {targets("a.b.c", "a.b.d", "a.e"), api.OK}, {targets("a", "b.a"), api.OK},
		// The rules are gone through in order.
		{targets("a", "a", ""), api.ErrDuplicate}, {targets("", "a", "a"), api.ErrShort}, {targets("a", "a[0]"), api.ErrPath}, {targets("a", "a[0", "a[0]"), api.ErrSyntax}, {targets("b", "a[0]", "b"), api.ErrPath},
	} {
		if e := mapping.Form(c.m); e != c.e {
			t.Errorf("%d: Form = %d, want %d", i, e, c.e)
		}
	}
	if e := mapping.Form(rules(rule("a", E{}), rule("b", op(99)))); e != api.OK {
		t.Errorf("Form with expressions that are none = %d", e)
	}
}

// TestP18_1Pairs goes through all pairs of short Targets.
func TestP18_1Pairs(t *testing.T) {
	var all []string
	for _, a := range []string{"a", "b", "aa", "a_"} {
		all = append(all, a)
		for _, b := range []string{"a", "b", "aa"} {
			all = append(all, a+"."+b, a+"."+b+".a", a+"."+b+".b")
		}
	}
	for _, a := range all {
		for _, b := range all {
			want := api.OK
			if strings.HasPrefix(a+".", b+".") || strings.HasPrefix(b+".", a+".") {
				want = api.ErrDuplicate
			}
			if e := mapping.Form(targets("c", a, "d.a", b)); e != want {
				t.Errorf("Form of %s and %s = %d, want %d", a, b, e, want)
			}
		}
	}
}

func TestP18_4Identity(t *testing.T) {
	name := strings.Repeat("n", api.MaxName)
	parts := strings.Repeat("a.", path.MaxParts-2) + "a"
	both := record(required("z", number(1, 2)), optional("a", list(0, 3, flag)))
	ends := record(required("a", flag), required(name, flag))
	for i, c := range []struct {
		t    T
		from string
		want M
		e    api.Errno
	}{
		{both, "body", rules(rule("z", at("body.z")), rule("a", at("body.a"))), api.OK}, {both, "a.b[0]?c", rules(rule("z", at("a.b[0]?c.z")), rule("a", at("a.b[0]?c.a"))), api.OK}, {both, "a[*]", rules(rule("z", at("a[*].z")), rule("a", at("a[*].a"))), api.OK}, {both, parts, rules(rule("z", at(parts+".z")), rule("a", at(parts+".a"))), api.OK},
		{record(), "", M{}, api.OK}, {record(), "..", M{}, api.OK},
		{both, "", M{}, api.ErrSyntax}, {both, ".", M{}, api.ErrSyntax}, {both, "Body", M{}, api.ErrSyntax}, {both, "body.", M{}, api.ErrSyntax}, {both, parts + ".a", M{}, api.ErrLimit}, {both, strings.Repeat("a", 199), M{}, api.ErrLong},
		// It may be the path of a later field.
		{ends, strings.Repeat(name+".", 5) + "nnn", rules(rule("a", at(strings.Repeat(name+".", 5)+"nnn.a"))), api.ErrLong}, {ends, strings.Repeat(name+".", 5) + "nn", rules(rule("a", at(strings.Repeat(name+".", 5)+"nn.a")), rule(name, at(strings.Repeat(name+".", 5)+"nn."+name))), api.OK},
		{number(1, 2), "body", M{}, api.ErrKind}, {list(0, 1, both), "", M{}, api.ErrKind}, {T{}, "", M{}, api.ErrKind}, {number(2, 1), "", M{}, api.ErrRange}, {T{Kind: api.Record, Min: 1}, "", M{}, api.ErrFormat}, {record(required("a", number(2, 1))), "", M{}, api.ErrRange},
	} {
		if c.e != api.OK {
			c.want = M{}
		}
		if m, e := mapping.Identity(c.t, c.from); !mapping.Equal(m, c.want) || e != c.e {
			t.Errorf("%d: Identity = %v, %d, want %v, %d", i, m, e, c.want, c.e)
		}
	}
}

func TestP18_5SourcesAndTargets(t *testing.T) {
	tooDeep := at("never")
	for range api.MaxDepth {
		tooDeep = op(api.OpNot, tooDeep)
	}
	for i, c := range []struct {
		m                M
		sources, targets []string
	}{
		{M{}, nil, nil}, {rule("a", num(1)), nil, []string{"a"}},
		{rules(rule("b", at("y")), rule("a", at("x"))), []string{"x", "y"}, []string{"a", "b"}},
		{rules(rule("a", op(api.OpAdd, at("y"), at("x.b"))), rule("b", has("x.a")), rule("c", at("y")), rule("d", sum("x[*]", 0))), []string{"x.a", "x.b", "x[*]", "y"}, []string{"a", "b", "c", "d"}},
		{rules(rule("a.b", at("x[0]")), rule("a_b", at("x_")), rule("a", at("x")), rule("ab", at("x0"))), []string{"x", "x0", "x[0]", "x_"}, []string{"a", "a.b", "a_b", "ab"}},
		// What is not well formed has Targets all the same, but an expression only if it is valid.
		{rules(rule("", at("x")), rule("a", tooDeep), rule("a", at("A")), rule("[", at("y[*]"))), []string{"x"}, []string{"", "[", "a", "a"}},
	} {
		if l := mapping.Sources(c.m); !slices.Equal(l, c.sources) {
			t.Errorf("%d: Sources = %v, want %v", i, l, c.sources)
		}
		if l := mapping.Targets(c.m); !slices.Equal(l, c.targets) {
			t.Errorf("%d: Targets = %v, want %v", i, l, c.targets)
		}
	}
}

func TestP18_5Equal(t *testing.T) {
	full := E{Op: api.OpAdd, Int: 1, Text: "t", Value: []V{value.Int(1)}, Args: []E{num(1)}}
	l := []M{{}, rule("a", num(1)), rule("b", num(1)), rule("a", num(2)), rule("a", at("x")), rules(rule("a", num(1)), rule("b", num(1))), rules(rule("b", num(1)), rule("a", num(1))), rules(rule("a", num(1)), rule("a", num(1))), rule("", E{}), rule("a", full)}
	for _, change := range []func(e *E){func(e *E) { e.Op = 1 }, func(e *E) { e.Int = 2 }, func(e *E) { e.Text = "" }, func(e *E) { e.Value = nil }, func(e *E) { e.Args = nil }} {
		other := full
		change(&other)
		l = append(l, rule("a", other))
	}
	for i, a := range l {
		for j, b := range l {
			if is := mapping.Equal(a, b); is != (i == j) {
				t.Errorf("Equal(%v, %v) = %v", a, b, is)
			}
		}
		if c := mapping.Clone(a); !mapping.Equal(a, c) || !mapping.Equal(c, a) {
			t.Errorf("Clone(%v) = %v", a, c)
		}
	}
	empty := E{Op: api.OpPath, Text: "x", Value: []V{}, Args: []E{}}
	if !mapping.Equal(rule("a", at("x")), rule("a", empty)) || !mapping.Equal(M{}, M{Rules: []api.Rule{}}) {
		t.Error("nil and empty lists differ")
	}
}

func TestP18_5CloneSharesNothing(t *testing.T) {
	m := rules(rule("a", op(api.OpElse, at("x"), lit(value.List(value.Int(1))))), rule("b", num(1)))
	c, kept := mapping.Clone(m), mapping.Clone(m)
	c.Rules[0].Expr.Args[1].Value[0].List[0] = value.Int(2)
	c.Rules[0].Expr.Args[1].Value[0] = value.Int(2)
	c.Rules[0].Expr.Args[0] = num(2)
	c.Rules[1] = api.Rule{}
	if !mapping.Equal(m, kept) {
		t.Errorf("a change of the clone of %v leads to %v", kept, m)
	}
}

func expectSources(t *testing.T, m M) {
	t.Helper()
	found := map[string]struct{}{}
	for _, r := range m.Rules {
		for _, s := range expr.Paths(r.Expr) {
			found[s] = struct{}{}
		}
	}
	l := mapping.Sources(m)
	for i, s := range l {
		if _, is := found[s]; !is || i > 0 && l[i-1] >= s {
			t.Fatalf("Sources(%v) = %v", m, l)
		}
	}
	if len(l) != len(found) {
		t.Fatalf("Sources(%v) = %v", m, l)
	}
}
