package value_test

import (
	"testing"

	"manifold/api"
	"manifold/value"
)

func TestP4_5Field(t *testing.T) {
	one, two := value.Int(1), value.Int(2)
	list := V{Kind: api.List, Fields: []api.Field{field("a", one)}}
	for i, c := range []struct {
		v    V
		name string
		want V
		has  bool
	}{
		{raw(field("a", one), field("b", two)), "a", one, true}, {raw(field("a", one), field("b", two)), "b", two, true}, {raw(field("a", one)), "c", V{}, false}, {raw(), "a", V{}, false}, {raw(field("a", one)), "", V{}, false},
		{raw(field("a", one), field("a", two)), "a", one, true}, {raw(field("b", one), field("a", two)), "a", two, true}, {raw(field("A", one)), "A", one, true}, {raw(field("a", V{})), "a", V{}, true}, {raw(field("a", value.List(one))), "a", value.List(one), true},
		{list, "a", V{}, false}, {V{}, "a", V{}, false}, {value.Variant("a", one), "a", V{}, false}, {V{Fields: []api.Field{field("a", one)}}, "a", V{}, false}, {V{Kind: 11, Fields: []api.Field{field("a", one)}}, "a", V{}, false},
	} {
		if x, has := value.Field(c.v, c.name); !value.Equal(x, c.want) || has != c.has {
			t.Errorf("%d: Field = %v, %t", i, x, has)
		}
	}
}

func TestP4_5With(t *testing.T) {
	one, two, three := value.Int(1), value.Int(2), value.Int(3)
	full := fields(64)
	changed := value.Clone(full)
	changed.Fields[63].Value = three
	crowded := raw(append(fields(64).Fields, field("a", one))...)
	for i, c := range []struct {
		v    V
		name string
		x    V
		want V
		e    api.Errno
	}{
		{raw(), "a", one, raw(field("a", one)), api.OK},
		{raw(field("a", one), field("b", two)), "aa", three, raw(field("a", one), field("aa", three), field("b", two)), api.OK},
		{raw(field("b", two)), "a", one, raw(field("a", one), field("b", two)), api.OK},
		{raw(field("a", one)), "b", two, raw(field("a", one), field("b", two)), api.OK},
		{raw(field("a", one), field("b", two)), "a", three, raw(field("a", three), field("b", two)), api.OK},
		{raw(field("a", one), field("a", two)), "a", three, raw(field("a", three), field("a", two)), api.OK},
		{raw(field("a", one)), "a", V{Int: 1}, raw(field("a", V{Int: 1})), api.OK},
		{raw(field("a", one), field("d", two), field("b", two), field("e", two)), "c", three, raw(field("a", one), field("c", three), field("d", two), field("b", two), field("e", two)), api.OK},
		{V{Kind: api.Record, Int: 7, Text: "x", List: []V{one}}, "a", two, V{Kind: api.Record, Int: 7, Text: "x", List: []V{one}, Fields: []api.Field{field("a", two)}}, api.OK},
		{full, full.Fields[63].Name, three, changed, api.OK}, {full, full.Fields[0].Name, full.Fields[0].Value, full, api.OK}, {full, "a", one, V{}, api.ErrLimit}, {full, "z", one, V{}, api.ErrLimit}, {full, "", one, V{}, api.ErrName}, {full, "a", V{}, V{}, api.ErrAbsent},
		{fields(65), "a", one, V{}, api.ErrLimit}, {crowded, "a", two, raw(append(fields(64).Fields, field("a", two))...), api.OK},
		{V{}, "", V{}, V{}, api.ErrKind}, {one, "a", one, V{}, api.ErrKind}, {V{Kind: api.List, Fields: []api.Field{field("a", one)}}, "a", two, V{}, api.ErrKind}, {V{Kind: 11}, "a", two, V{}, api.ErrKind}, {value.Variant("a", one), "A", two, V{}, api.ErrKind},
		{raw(field("A", one)), "A", one, V{}, api.ErrName}, {raw(), "", V{}, V{}, api.ErrName}, {raw(), "a", V{List: []V{}}, V{}, api.ErrAbsent}, {raw(field("a", one)), "a", V{}, V{}, api.ErrAbsent},
	} {
		if x, e := value.With(c.v, c.name, c.x); !value.Equal(x, c.want) || e != c.e {
			t.Errorf("%d: With = %v, %d, want %v, %d", i, x, e, c.want, c.e)
		}
	}
	if x, e := value.With(fields(63), "a", one); e != api.OK || len(x.Fields) != 64 || x.Fields[0].Name != "a" || value.Check(x) != api.OK {
		t.Errorf("With of the 64th field: %d", e)
	}
}

func TestP4_5Without(t *testing.T) {
	one, two := value.Int(1), value.Int(2)
	for i, c := range []struct {
		v    V
		name string
		want V
		e    api.Errno
	}{
		{raw(field("a", one), field("b", two)), "a", raw(field("b", two)), api.OK}, {raw(field("a", one), field("b", two)), "b", raw(field("a", one)), api.OK}, {raw(field("a", one)), "a", raw(), api.OK},
		{raw(field("a", one), field("a", two)), "a", raw(field("a", two)), api.OK}, {raw(field("A", one)), "A", raw(), api.OK}, {raw(field("", V{})), "", raw(), api.OK},
		{raw(), "a", V{}, api.ErrNotFound}, {raw(field("a", one)), "b", V{}, api.ErrNotFound}, {raw(field("a", one)), "", V{}, api.ErrNotFound},
		{V{}, "a", V{}, api.ErrKind}, {one, "", V{}, api.ErrKind}, {V{Kind: api.List, Fields: []api.Field{field("a", one)}}, "a", V{}, api.ErrKind}, {value.Variant("a", one), "a", V{}, api.ErrKind},
		{V{Kind: api.Record, Scale: 7, List: []V{one}, Fields: []api.Field{field("a", two)}}, "a", V{Kind: api.Record, Scale: 7, List: []V{one}}, api.OK},
	} {
		if x, e := value.Without(c.v, c.name); !value.Equal(x, c.want) || e != c.e {
			t.Errorf("%d: Without = %v, %d, want %v, %d", i, x, e, c.want, c.e)
		}
	}
}
