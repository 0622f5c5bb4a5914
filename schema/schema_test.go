package schema_test

import (
	"testing"

	"manifold/api"
	"manifold/schema"
	"manifold/value"
)

func TestTerms(t *testing.T) {
	if schema.MaxField != 9999 {
		t.Error("the constant")
	}
}

func TestP6_4Field(t *testing.T) {
	a, b, again := required(1, "a", flag), defaulted(2, "b", digit, value.Int(1)), optional(1, "a", digit)
	for i, c := range []struct {
		t    T
		name string
		want F
		has  bool
	}{
		{record(a, b), "a", a, true}, {record(a, b), "b", b, true}, {record(a, b), "c", F{}, false}, {record(a, b), "", F{}, false}, {record(), "a", F{}, false}, {variant(a, b), "b", b, true}, {record(a, again), "a", a, true}, {variant(again, a), "a", again, true}, {record(F{}), "", F{}, true},
		{T{Kind: api.List, Fields: []F{a}}, "a", F{}, false}, {T{Kind: api.Bool, Fields: []F{a}}, "a", F{}, false}, {T{Kind: 11, Fields: []F{a}}, "a", F{}, false}, {T{Fields: []F{a}}, "a", F{}, false}, {list(0, 1, record(a)), "a", F{}, false},
	} {
		if f, has := schema.Field(c.t, c.name); !schema.Equal(record(f), record(c.want)) || has != c.has {
			t.Errorf("%d: Field = %v, %t", i, f, has)
		}
	}
}

func TestP6_4Numbered(t *testing.T) {
	a, b, again := required(1, "a", flag), defaulted(2, "b", digit, value.Int(1)), optional(1, "c", digit)
	for i, c := range []struct {
		t      T
		number int
		want   F
		has    bool
	}{
		{record(a, b), 1, a, true}, {record(a, b), 2, b, true}, {record(a, b), 3, F{}, false}, {record(a, b), 0, F{}, false}, {record(), 1, F{}, false}, {variant(a, b), 2, b, true}, {record(a, again), 1, a, true}, {variant(again, a), 1, again, true}, {record(F{}), 0, F{}, true}, {record(required(-1, "a", flag)), -1, required(-1, "a", flag), true},
		{T{Kind: api.List, Fields: []F{a}}, 1, F{}, false}, {T{Kind: api.Text, Fields: []F{a}}, 1, F{}, false}, {T{Kind: -1, Fields: []F{a}}, 1, F{}, false}, {T{Fields: []F{a}}, 1, F{}, false},
	} {
		if f, has := schema.Numbered(c.t, c.number); !schema.Equal(record(f), record(c.want)) || has != c.has {
			t.Errorf("%d: Numbered = %v, %t", i, f, has)
		}
	}
}

func TestP6_7Equal(t *testing.T) {
	full := func() T {
		return T{Kind: api.Record, Min: 1, Max: 2, Scale: 3, Words: []string{"a", "b"}, Elem: []T{flag}, Fields: []F{defaulted(1, "f", digit, value.Int(1), value.List(value.Int(2))), required(2, "g", list(0, 1, flag))}}
	}
	if !schema.Equal(full(), full()) || !schema.Equal(T{}, T{}) {
		t.Error("equal types")
	}
	if !schema.Equal(T{}, T{Words: []string{}, Elem: []T{}, Fields: []F{}}) || !schema.Equal(record(F{}), record(F{Default: []V{}})) || !schema.Equal(record(defaulted(1, "a", flag, V{})), record(defaulted(1, "a", flag, V{List: []V{}, Fields: []api.Field{}}))) {
		t.Error("nil and empty slices")
	}
	for i, change := range []func(x *T){
		func(x *T) { x.Kind = api.Variant }, func(x *T) { x.Min = 0 }, func(x *T) { x.Max = 3 }, func(x *T) { x.Scale = 0 }, func(x *T) { x.Words[1] = "c" }, func(x *T) { x.Words = x.Words[:1] }, func(x *T) { x.Words = nil }, func(x *T) { x.Words = append(x.Words, "c") },
		func(x *T) { x.Elem[0].Kind = api.Int }, func(x *T) { x.Elem = nil }, func(x *T) { x.Elem = append(x.Elem, flag) }, func(x *T) { x.Fields = x.Fields[:1] }, func(x *T) { x.Fields[0], x.Fields[1] = x.Fields[1], x.Fields[0] },
		func(x *T) { x.Fields[0].Number = 3 }, func(x *T) { x.Fields[0].Name = "h" }, func(x *T) { x.Fields[0].Need = api.Optional }, func(x *T) { x.Fields[0].Type.Max = 8 }, func(x *T) { x.Fields[1].Type.Elem[0] = digit },
		func(x *T) { x.Fields[0].Default = nil }, func(x *T) { x.Fields[0].Default[0].Int = 2 }, func(x *T) { x.Fields[0].Default[1].List[0].Int = 3 }, func(x *T) { x.Fields[0].Default = x.Fields[0].Default[:1] }, func(x *T) { x.Fields[1].Default = []V{{}} },
	} {
		x := full()
		change(&x)
		if schema.Equal(x, full()) || schema.Equal(full(), x) {
			t.Errorf("%d: Equal", i)
		}
	}
}

func TestP6_7EqualSchema(t *testing.T) {
	s := api.Schema{Name: "a", Version: 1, Type: record(required(1, "n", digit))}
	for i, c := range []struct {
		s    api.Schema
		same bool
	}{
		{api.Schema{Name: "a", Version: 1, Type: record(required(1, "n", digit))}, true}, {api.Schema{Name: "b", Version: 1, Type: s.Type}, false}, {api.Schema{Name: "a", Version: 2, Type: s.Type}, false}, {api.Schema{Name: "a", Version: 1, Type: record(required(1, "n", flag))}, false}, {api.Schema{}, false},
	} {
		if schema.EqualSchema(s, c.s) != c.same || schema.EqualSchema(c.s, s) != c.same {
			t.Errorf("%d: EqualSchema is not %t", i, c.same)
		}
	}
	if !schema.EqualSchema(api.Schema{}, api.Schema{Type: T{Fields: []F{}}}) {
		t.Error("nil and empty slices")
	}
}

func TestP6_7Kinds(t *testing.T) {
	names := []string{"bool", "int", "decimal", "text", "bytes", "date", "time", "list", "record", "variant"}
	for i, name := range names {
		if s, e := schema.KindName(i + 1); s != name || e != api.OK {
			t.Errorf("KindName(%d) = %q, %d", i+1, s, e)
		}
		if kind, e := schema.FindKind(name); kind != i+1 || e != api.OK {
			t.Errorf("FindKind(%q) = %d, %d", name, kind, e)
		}
	}
	for _, kind := range []int{0, -1, 11, 1 << 62, -1 << 63} {
		if s, e := schema.KindName(kind); s != "" || e != api.ErrKind {
			t.Errorf("KindName(%d) = %q, %d", kind, s, e)
		}
	}
	for _, name := range []string{"", "Bool", "null", "boo", "booll", " int", "int\x00"} {
		if kind, e := schema.FindKind(name); kind != 0 || e != api.ErrNotFound {
			t.Errorf("FindKind(%q) = %d, %d", name, kind, e)
		}
	}
}
