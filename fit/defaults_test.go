package fit_test

import (
	"testing"

	"manifold/api"
	"manifold/fit"
	"manifold/value"
)

func TestP7_2Complete(t *testing.T) {
	one, two, text := value.Int(1), value.Int(2), value.Text
	a := at("kind", text("a"))
	first := raw(at("id", two))
	inner := record(defaulted("m", digit, value.Int(7)), optional("o", digit))
	seven := raw(at("m", value.Int(7)))
	deep := record(required("v", variant(required("c", list(0, 9, inner)), required("d", digit))), optional("r", inner))
	sorted := record(defaulted("e", digit, one), required("d", digit), defaulted("a", digit, two), defaulted("c", digit, two))
	for i, c := range []struct {
		t    T
		v    V
		want V
		e    api.Errno
	}{
		{order(), first, raw(at("id", two), a), api.OK}, {order(), raw(at("id", two), at("kind", text("b"))), raw(at("id", two), at("kind", text("b"))), api.OK}, {order(), raw(at("id", two), at("note", text("x"))), raw(at("id", two), a, at("note", text("x"))), api.OK}, {order(), raw(at("id", two), a), raw(at("id", two), a), api.OK},
		{sorted, raw(at("d", one)), raw(at("a", two), at("c", two), at("d", one), at("e", one)), api.OK}, {sorted, raw(at("c", one), at("d", one)), raw(at("a", two), at("c", one), at("d", one), at("e", one)), api.OK}, {digit, one, one, api.OK}, {record(), raw(), raw(), api.OK}, {list(0, 1, inner), value.List(), value.List(), api.OK},
		{list(0, 9, inner), value.List(raw(), raw(at("m", one)), raw(at("o", one))), value.List(seven, raw(at("m", one)), raw(at("m", value.Int(7)), at("o", one))), api.OK}, {deep, raw(at("v", value.Variant("c", value.List(raw(), raw())))), raw(at("v", value.Variant("c", value.List(seven, seven)))), api.OK}, {deep, raw(at("r", raw()), at("v", value.Variant("d", one))), raw(at("r", seven), at("v", value.Variant("d", one))), api.OK}, {deep, raw(at("v", value.Variant("d", one))), raw(at("v", value.Variant("d", one))), api.OK},
		// What is added stays as it is, so that it must be complete.
		{record(defaulted("r", inner, seven)), raw(), raw(at("r", seven)), api.OK}, {record(defaulted("r", inner, raw())), raw(), V{}, api.ErrType}, {record(defaulted("r", inner, raw())), raw(at("r", raw())), raw(at("r", seven)), api.OK},
		// Only Defaulted fields with one default get it.
		{record(defaulted("a", digit)), raw(), V{}, api.ErrType}, {record(defaulted("a", digit, one, one)), raw(), V{}, api.ErrType}, {record(defaulted("a", digit, one, one)), raw(at("a", one)), raw(at("a", one)), api.OK}, {record(F{Name: "a", Need: api.Optional, Type: digit, Default: []V{one}}), raw(), raw(), api.OK}, {record(F{Name: "a", Need: api.Required, Type: digit, Default: []V{one}}), raw(), V{}, api.ErrType}, {record(defaulted("a", digit, V{})), raw(), V{}, api.ErrType}, {record(defaulted("a", digit, value.Int(0))), raw(), V{}, api.ErrType},
		// The first field with a name gives the type, the first one with a default gives this.
		{record(optional("a", digit), defaulted("a", digit, one)), raw(), raw(at("a", one)), api.OK}, {record(defaulted("a", digit, one), defaulted("a", digit, two)), raw(), raw(at("a", one)), api.OK}, {record(required("a", inner), required("a", record(optional("m", digit)))), raw(at("a", raw())), raw(at("a", seven)), api.OK}, {record(required("a", record(optional("m", digit))), required("a", inner)), raw(at("a", raw())), V{}, api.ErrType}, {variant(required("c", inner), required("c", digit)), value.Variant("c", raw()), value.Variant("c", seven), api.OK}, {variant(required("c", digit), required("c", inner)), value.Variant("c", raw()), V{}, api.ErrType},
		{order(), raw(), V{}, api.ErrType}, {order(), raw(at("id", value.Int(0))), V{}, api.ErrType}, {order(), raw(at("id", one), at("x", one)), V{}, api.ErrType}, {order(), raw(at("note", text("x")), at("id", one)), V{}, api.ErrType}, {order(), one, V{}, api.ErrType}, {order(), V{}, V{}, api.ErrType}, {T{}, V{}, V{}, api.ErrType}, {T{Kind: 11}, V{Kind: 11}, V{}, api.ErrType}, {digit, value.Int(0), V{}, api.ErrType}, {deep, raw(at("v", value.Variant("e", one))), V{}, api.ErrType}, {variant(required("c", inner)), V{Kind: api.Variant, Text: "c"}, V{}, api.ErrType},
		{T{Kind: api.List, Max: 9}, value.List(raw()), V{}, api.ErrType}, {T{Kind: api.List, Max: 9}, value.List(), value.List(), api.OK}, {T{Kind: api.List, Max: 9, Elem: []T{inner, inner}}, value.List(raw()), V{}, api.ErrType}, {order(), V{Kind: api.Record, Int: 1, Fields: first.Fields}, V{}, api.ErrType}, {record(defaulted("", digit, one), optional("a", digit)), raw(at("a", two)), raw(at("", one), at("a", two)), api.OK}, {list(0, 9, inner), value.List(one), V{}, api.ErrType},
	} {
		if v, e := fit.Complete(c.t, c.v); !value.Equal(v, c.want) || e != c.e {
			t.Errorf("%d: Complete(%v, %v) = %v, %d, want %v, %d", i, c.t, c.v, v, e, c.want, c.e)
		}
	}
}

func TestP7_2Reduce(t *testing.T) {
	one, two, text := value.Int(1), value.Int(2), value.Text
	a := at("kind", text("a"))
	inner := record(defaulted("m", digit, value.Int(7)), optional("o", digit))
	seven := raw(at("m", value.Int(7)))
	deep := record(required("v", variant(required("c", list(0, 9, inner)), required("d", digit))), optional("r", inner))
	for i, c := range []struct {
		t    T
		v    V
		want V
		e    api.Errno
	}{
		{order(), raw(at("id", two), a), raw(at("id", two)), api.OK}, {order(), raw(at("id", two), at("kind", text("b"))), raw(at("id", two), at("kind", text("b"))), api.OK}, {order(), raw(at("id", two), a, at("note", text("x"))), raw(at("id", two), at("note", text("x"))), api.OK}, {digit, one, one, api.OK}, {record(), raw(), raw(), api.OK}, {record(defaulted("a", digit, one), defaulted("b", digit, two)), raw(at("a", one), at("b", two)), raw(), api.OK}, {record(defaulted("a", digit, one), defaulted("b", digit, two)), raw(at("a", two), at("b", two)), raw(at("a", two)), api.OK},
		{list(0, 9, inner), value.List(seven, raw(at("m", one)), raw(at("m", value.Int(7)), at("o", one))), value.List(raw(), raw(at("m", one)), raw(at("o", one))), api.OK}, {deep, raw(at("v", value.Variant("c", value.List(seven, seven)))), raw(at("v", value.Variant("c", value.List(raw(), raw())))), api.OK}, {deep, raw(at("r", seven), at("v", value.Variant("d", one))), raw(at("r", raw()), at("v", value.Variant("d", one))), api.OK},
		// A default is compared with the field as it is, not with what it is reduced to.
		{record(defaulted("r", inner, seven)), raw(at("r", seven)), raw(), api.OK}, {record(defaulted("r", inner, raw())), raw(at("r", seven)), raw(at("r", raw())), api.OK}, {record(defaulted("r", inner, raw(at("m", two)))), raw(at("r", seven)), raw(at("r", raw())), api.OK},
		{record(defaulted("l", list(0, 1, digit), V{Kind: api.List, List: []V{}, Fields: []api.Field{}})), raw(at("l", V{Kind: api.List})), raw(), api.OK}, {record(defaulted("l", list(0, 1, digit), V{Kind: api.List})), raw(at("l", V{Kind: api.List, List: []V{}, Fields: []api.Field{}})), raw(), api.OK}, {record(defaulted("a", digit, V{Kind: api.Int, Int: 1, Scale: 1})), raw(at("a", one)), raw(at("a", one)), api.OK}, {record(defaulted("a", digit, value.Date(1))), raw(at("a", one)), raw(at("a", one)), api.OK},
		{record(defaulted("a", digit)), raw(at("a", one)), raw(at("a", one)), api.OK}, {record(defaulted("a", digit, one, one)), raw(at("a", one)), raw(at("a", one)), api.OK}, {record(F{Name: "a", Need: api.Optional, Type: digit, Default: []V{one}}), raw(at("a", one)), raw(at("a", one)), api.OK}, {record(F{Name: "a", Need: api.Required, Type: digit, Default: []V{one}}), raw(at("a", one)), raw(at("a", one)), api.OK},
		// Only the first field with a name counts.
		{record(optional("a", digit), defaulted("a", digit, one)), raw(at("a", one)), raw(at("a", one)), api.OK}, {record(defaulted("a", digit, one), optional("a", digit)), raw(at("a", one)), raw(), api.OK}, {record(defaulted("a", digit, one), defaulted("a", digit, two)), raw(at("a", two)), raw(at("a", two)), api.OK}, {variant(required("c", inner), required("c", digit)), value.Variant("c", seven), value.Variant("c", raw()), api.OK}, {record(required("a", record(optional("m", digit))), required("a", inner)), raw(at("a", seven)), raw(at("a", seven)), api.OK}, {variant(defaulted("c", digit, one)), value.Variant("c", one), value.Variant("c", one), api.OK},
		{order(), raw(at("id", two)), V{}, api.ErrType}, {order(), raw(at("id", value.Int(0)), a), V{}, api.ErrType}, {order(), raw(), V{}, api.ErrType}, {order(), one, V{}, api.ErrType}, {T{}, V{}, V{}, api.ErrType}, {digit, value.Int(0), V{}, api.ErrType}, {deep, raw(at("v", value.Variant("c", value.List(raw())))), V{}, api.ErrType}, {T{Kind: api.List, Max: 9}, value.List(), value.List(), api.OK}, {T{Kind: api.List, Max: 9}, value.List(one), V{}, api.ErrType},
	} {
		if v, e := fit.Reduce(c.t, c.v); !value.Equal(v, c.want) || e != c.e {
			t.Errorf("%d: Reduce(%v, %v) = %v, %d, want %v, %d", i, c.t, c.v, v, e, c.want, c.e)
		}
	}
}
