package path_test

import (
	"slices"
	"strings"
	"testing"

	"manifold/api"
	"manifold/path"
	"manifold/value"
)

type V = api.Value

func field(name string, v V) api.Field { return api.Field{Name: name, Value: v} }

// raw returns the record of some fields as they are.
func raw(l ...api.Field) V { return V{Kind: api.Record, Fields: l} }

// example returns {a: [{b: 1}, {b: 2}, {}], c: card(7)}.
func example() V {
	return raw(field("a", value.List(raw(field("b", value.Int(1))), raw(field("b", value.Int(2))), raw())), field("c", value.Variant("card", value.Int(7))))
}

// odd returns {d: variants with two values and with none, e: fields in no list, f: twice, n: Null, x: of no kind}, which is no valid value.
func odd() V {
	one := value.Int(1)
	two := V{Kind: api.Variant, Text: "card", List: []V{one, one}}
	return raw(
		field("d", value.List(two, V{Kind: api.Variant, Text: "card"})), field("e", V{Kind: api.List, Fields: []api.Field{field("a", one)}}), field("f", one), field("f", value.List(one)),
		field("n", V{}), field("x", V{Kind: 11, List: []V{one}, Fields: []api.Field{field("a", one)}}), field("a", value.List(value.List(one), one)), field("g", value.List(value.Variant("card", one), value.Variant("cash", one))),
	)
}

func TestP5_2Get(t *testing.T) {
	one, two, seven := value.Int(1), value.Int(2), value.Int(7)
	v := example()
	for _, c := range []struct {
		v    V
		s    string
		want V
		e    api.Errno
	}{
		{v, "a", v.Fields[0].Value, api.OK}, {v, "a[1].b", two, api.OK}, {v, "a[1]", raw(field("b", two)), api.OK}, {v, "a[2].b", V{}, api.ErrAbsent}, {v, "a[3]", V{}, api.ErrAbsent}, {v, "a[255].b", V{}, api.ErrAbsent}, {v, "a[*].b", value.List(one, two), api.OK}, {v, "a[*]", v.Fields[0].Value, api.OK},
		{v, "c?card", seven, api.OK}, {v, "c?cash", V{}, api.ErrAbsent}, {v, "c", value.Variant("card", seven), api.OK}, {v, "a.b", V{}, api.ErrPath}, {v, "a?card", V{}, api.ErrPath}, {v, "c[0]", V{}, api.ErrPath}, {v, "c[*]", V{}, api.ErrPath}, {v, "c.card", V{}, api.ErrPath}, {v, "c?card.b", V{}, api.ErrPath},
		{v, "b", V{}, api.ErrAbsent}, {v, "b.c[1]?d", V{}, api.ErrAbsent}, {v, "c?cash.b", V{}, api.ErrAbsent}, {v, "a[7][7]", V{}, api.ErrAbsent}, {v, "b[*]", value.List(), api.OK}, {v, "b[*].c.d", value.List(), api.OK}, {v, "a[*].c", value.List(), api.OK}, {v, "a[*].c.d?e", value.List(), api.OK}, {v, "a[*].b.c", V{}, api.ErrPath}, {v, "a[*][0]", V{}, api.ErrPath}, {v, "c?cash[*]", value.List(), api.OK}, {v, "a[2].b[*]", value.List(), api.OK},
		{one, "a", V{}, api.ErrPath}, {V{}, "a", V{}, api.ErrPath}, {value.List(v), "a", V{}, api.ErrPath}, {value.Variant("a", one), "a", V{}, api.ErrPath}, {V{Kind: 11, Fields: v.Fields}, "a", V{}, api.ErrPath}, {raw(), "a", V{}, api.ErrAbsent},
		{odd(), "d[0]?card", V{}, api.ErrPath}, {odd(), "d[0]?cash", V{}, api.ErrPath}, {odd(), "d[1]?card", V{}, api.ErrPath}, {odd(), "d[1]?cash", V{}, api.ErrPath}, {odd(), "d[*]?card", V{}, api.ErrPath}, {odd(), "e.a", V{}, api.ErrPath}, {odd(), "e[0]", V{}, api.ErrAbsent}, {odd(), "f", one, api.OK}, {odd(), "f[0]", V{}, api.ErrPath}, {odd(), "n", V{}, api.OK}, {odd(), "n.a", V{}, api.ErrPath}, {odd(), "x[0]", V{}, api.ErrPath}, {odd(), "x.a", V{}, api.ErrPath}, {odd(), "x?a", V{}, api.ErrPath},
		{odd(), "a[*][0]", V{}, api.ErrPath}, {odd(), "a[0][*]", value.List(one), api.OK}, {odd(), "a[*][*]", V{}, api.ErrPath}, {odd(), "g[*]?cash", value.List(one), api.OK}, {odd(), "g[*]?note", value.List(), api.OK}, {odd(), "g[*]?card.a", V{}, api.ErrPath}, {odd(), "g[*]?note.a", value.List(), api.OK},
	} {
		l := mustParse(t, c.s)
		if x, e := path.Get(c.v, l); !value.Equal(x, c.want) || e != c.e {
			t.Errorf("Get(%q) = %v, %d, want %v, %d", c.s, x, e, c.want, c.e)
		}
		want := []V{c.want}
		switch {
		case c.e != api.OK:
			want = nil
		case strings.Contains(c.s, "*"):
			want = c.want.List
		}
		if x, e := path.Find(c.v, l); !slices.EqualFunc(x, want, value.Equal) || e != c.e {
			t.Errorf("Find(%q) = %v, %d, want %v, %d", c.s, x, e, want, c.e)
		}
	}
}

func TestP5_2ManyValues(t *testing.T) {
	rows := V{Kind: api.List}
	for i := range 300 {
		row := V{Kind: api.List}
		for j := range 300 {
			row.List = append(row.List, value.Int(300*i+j))
		}
		rows.List = append(rows.List, row)
	}
	x, e := path.Get(raw(field("a", rows)), mustParse(t, "a[*][*]"))
	if e != api.OK || x.Kind != api.List || len(x.List) != 90000 {
		t.Fatalf("Get = %d values, %d", len(x.List), e)
	}
	for i, y := range x.List {
		if y.Int != i {
			t.Fatalf("the value %d is %v", i, y)
		}
	}
}

// full returns a record with a number of fields, whose names begin with f.
func full(n int) V {
	v := raw()
	for i := range n {
		v.Fields = append(v.Fields, field("f"+string([]byte{'a' + byte(i/26), 'a' + byte(i%26)}), raw()))
	}
	return v
}

func TestP5_3Set(t *testing.T) {
	one, two, five := value.Int(1), value.Int(2), value.Int(5)
	x := raw(field("a", one), field("c", two))
	for i, c := range []struct {
		v    V
		s    string
		want V
	}{
		{raw(), "x.y", raw(field("x", raw(field("y", five))))}, {raw(), "x", raw(field("x", five))}, {x, "b", raw(field("a", one), field("b", five), field("c", two))}, {x, "d", raw(field("a", one), field("c", two), field("d", five))}, {x, "a0", raw(field("a", one), field("a0", five), field("c", two))}, {x, "a", raw(field("a", five), field("c", two))}, {x, "b.a.z", raw(field("a", one), field("b", raw(field("a", raw(field("z", five))))), field("c", two))},
		{example(), "a[1].b", raw(field("a", value.List(raw(field("b", one)), raw(field("b", five)), raw())), example().Fields[1])}, {example(), "a[2].b", raw(field("a", value.List(raw(field("b", one)), raw(field("b", two)), raw(field("b", five)))), example().Fields[1])}, {example(), "a[0].a.c", raw(field("a", value.List(raw(field("a", raw(field("c", five))), field("b", one)), raw(field("b", two)), raw())), example().Fields[1])}, {example(), "a[2]", raw(field("a", value.List(raw(field("b", one)), raw(field("b", two)), five)), example().Fields[1])}, {example(), "a", raw(field("a", five), example().Fields[1])}, {example(), "c?card", raw(example().Fields[0], field("c", value.Variant("card", five)))},
		{raw(field("b", one), field("d", one), field("a", one)), "c", raw(field("b", one), field("c", five), field("d", one), field("a", one))}, {raw(field("b", one), field("b", two)), "b", raw(field("b", five), field("b", two))}, {V{Kind: api.Record, Int: 7, Text: "x", List: []V{one}}, "a", V{Kind: api.Record, Int: 7, Text: "x", List: []V{one}, Fields: []api.Field{field("a", five)}}}, {raw(field("a", V{})), "a", raw(field("a", five))}, {raw(field("A", one)), "a", raw(field("A", one), field("a", five))},
	} {
		if y, e := path.Set(c.v, mustParse(t, c.s), five); !value.Equal(y, c.want) || e != api.OK {
			t.Errorf("%d: Set(%q) = %v, %d, want %v", i, c.s, y, e, c.want)
		}
	}
	if y, e := path.Set(x, mustParse(t, "a"), V{}); !value.Equal(y, raw(field("a", V{}), field("c", two))) || e != api.OK {
		t.Errorf("Set to Null = %v, %d", y, e)
	}
}

func TestP5_3SetErrors(t *testing.T) {
	one := value.Int(1)
	within := raw(field("a", full(64)), field("b", value.List(full(64))))
	for i, c := range []struct {
		v V
		s string
		e api.Errno
	}{
		{example(), "a[*]", api.ErrFormat}, {example(), "a[*].b", api.ErrFormat}, {one, "a[*]", api.ErrFormat}, {example(), "b[*].c", api.ErrFormat}, {full(64), "a[*]", api.ErrFormat},
		{example(), "a[3]", api.ErrAbsent}, {example(), "a[3].b[0]", api.ErrAbsent}, {example(), "c?cash", api.ErrAbsent}, {example(), "c?cash.a", api.ErrAbsent}, {example(), "a.b", api.ErrPath}, {example(), "a?card", api.ErrPath}, {example(), "c[0]", api.ErrPath}, {example(), "c.a", api.ErrPath}, {example(), "a[0].b.c", api.ErrPath}, {example(), "a[0][0]", api.ErrPath},
		{raw(), "x[0]", api.ErrPath}, {raw(), "x?a", api.ErrPath}, {raw(), "x.y[0]", api.ErrPath}, {raw(), "x.y?z.a", api.ErrPath}, {one, "a", api.ErrPath}, {V{}, "a", api.ErrPath}, {V{}, "a.b[0]", api.ErrPath}, {value.List(), "a", api.ErrPath}, {odd(), "d[0]?card", api.ErrPath}, {odd(), "d[1]?cash", api.ErrPath}, {odd(), "x.a", api.ErrPath}, {odd(), "n.a", api.ErrPath}, {odd(), "f[0]", api.ErrPath},
		{full(64), "a", api.ErrLimit}, {full(64), "z.a", api.ErrLimit}, {full(64), "z[0]", api.ErrLimit}, {full(65), "a", api.ErrLimit}, {full(64), "faa", api.OK}, {full(64), "faa.a", api.OK}, {full(63), "a", api.OK}, {full(63), "a.b.c", api.OK}, {full(65), "faa", api.OK}, {within, "a.a", api.ErrLimit}, {within, "b[0].a.b", api.ErrLimit}, {within, "b[1].a", api.ErrAbsent}, {within, "b.a", api.ErrPath}, {within, "a.faa.a", api.OK},
	} {
		if x, e := path.Set(c.v, mustParse(t, c.s), one); e != c.e || e != api.OK && !value.IsNull(x) {
			t.Errorf("%d: Set(%q) = %v, %d, want %d", i, c.s, x, e, c.e)
		}
	}
}

func TestP5_4Delete(t *testing.T) {
	one, two, seven := value.Int(1), value.Int(2), value.Int(7)
	v := example()
	deep := raw(field("c", value.Variant("card", raw(field("a", one), field("b", value.List(one, two))))))
	for i, c := range []struct {
		v    V
		s    string
		want V
		e    api.Errno
	}{
		{v, "a", raw(field("c", value.Variant("card", seven))), api.OK}, {v, "c", raw(v.Fields[0]), api.OK}, {v, "a[0]", raw(field("a", value.List(raw(field("b", two)), raw())), v.Fields[1]), api.OK}, {v, "a[2]", raw(field("a", value.List(raw(field("b", one)), raw(field("b", two)))), v.Fields[1]), api.OK}, {v, "a[1].b", raw(field("a", value.List(raw(field("b", one)), raw(), raw())), v.Fields[1]), api.OK},
		{deep, "c?card.a", raw(field("c", value.Variant("card", raw(field("b", value.List(one, two)))))), api.OK}, {deep, "c?card.b[1]", raw(field("c", value.Variant("card", raw(field("a", one), field("b", value.List(one)))))), api.OK}, {raw(field("a", one), field("a", two)), "a", raw(field("a", two)), api.OK}, {raw(field("a", V{})), "a", raw(), api.OK}, {full(65), "faa", raw(full(65).Fields[1:]...), api.OK},
		{v, "a[*]", V{}, api.ErrFormat}, {v, "a[*].b", V{}, api.ErrFormat}, {v, "c?card", V{}, api.ErrFormat}, {v, "c?cash", V{}, api.ErrFormat}, {v, "a?card", V{}, api.ErrFormat}, {one, "a?b", V{}, api.ErrFormat}, {one, "a[*].b", V{}, api.ErrFormat},
		{v, "a.b", V{}, api.ErrPath}, {v, "c[0]", V{}, api.ErrPath}, {v, "c?card.a", V{}, api.ErrPath}, {v, "a[0].b.c", V{}, api.ErrPath}, {v, "a?card.b", V{}, api.ErrPath}, {one, "a", V{}, api.ErrPath}, {V{}, "a", V{}, api.ErrPath}, {odd(), "d[0]?card.a", V{}, api.ErrPath}, {odd(), "x[0]", V{}, api.ErrPath}, {odd(), "f[0]", V{}, api.ErrPath},
		{v, "b", V{}, api.ErrAbsent}, {v, "b.c", V{}, api.ErrAbsent}, {v, "b[0]", V{}, api.ErrAbsent}, {v, "b?c.d", V{}, api.ErrAbsent}, {v, "a[3]", V{}, api.ErrAbsent}, {v, "a[2].b", V{}, api.ErrAbsent}, {v, "a[2].b.c[0]", V{}, api.ErrAbsent}, {v, "c?cash.a", V{}, api.ErrAbsent}, {raw(), "a", V{}, api.ErrAbsent}, {full(64), "a", V{}, api.ErrAbsent}, {full(64), "a.b", V{}, api.ErrAbsent},
	} {
		if x, e := path.Delete(c.v, mustParse(t, c.s)); !value.Equal(x, c.want) || e != c.e {
			t.Errorf("%d: Delete(%q) = %v, %d, want %v, %d", i, c.s, x, e, c.want, c.e)
		}
	}
}

func TestP5_5Leaves(t *testing.T) {
	one := value.Int(1)
	wide := V{Kind: api.List}
	for range 300 {
		wide.List = append(wide.List, one)
	}
	a := name("a")
	for i, c := range []struct {
		v    V
		want [][]P
	}{
		{example(), [][]P{{a, at(0), name("b")}, {a, at(1), name("b")}, {a, at(2)}, {name("c"), of("card")}}},
		{V{}, nil}, {one, nil}, {raw(), nil}, {value.List(one), nil}, {value.Variant("a", one), nil}, {V{Kind: api.List, Fields: []api.Field{field("a", one)}}, nil}, {V{Kind: 11, Fields: []api.Field{field("a", one)}}, nil}, {V{Kind: api.Record, List: []V{one}}, nil},
		{raw(field("b", raw()), field("a", value.List()), field("a", one)), [][]P{{name("b")}, {a}, {a}}}, {raw(field("a", raw(field("A", one), field("", one)))), [][]P{{a, name("A")}, {a, name("")}}}, {raw(field("a", raw(field("a", one))), field("a", value.List(one, one))), [][]P{{a, a}, {a, at(0)}, {a, at(1)}}},
		{raw(field("a", value.Variant("x", value.Variant("Y", raw(field("b", one)))))), [][]P{{a, of("x"), of("Y"), name("b")}}}, {raw(field("a", V{Kind: api.Variant, Text: "x", List: []V{one, one}})), [][]P{{a}}}, {raw(field("a", V{Kind: api.Variant, Text: "x"})), [][]P{{a}}}, {raw(field("a", V{Kind: api.Variant, List: []V{{}}})), [][]P{{a, of("")}}},
		{raw(field("a", V{})), [][]P{{a}}}, {raw(field("a", V{Kind: api.Int, List: []V{one}, Fields: []api.Field{field("a", one)}})), [][]P{{a}}}, {raw(field("a", V{Kind: 11, List: []V{one}})), [][]P{{a}}}, {raw(field("a", V{Kind: api.List, Fields: []api.Field{field("a", one)}})), [][]P{{a}}},
	} {
		if l := path.Leaves(c.v); !slices.EqualFunc(l, c.want, slices.Equal[[]P]) {
			t.Errorf("%d: Leaves = %v, want %v", i, l, c.want)
		}
	}
	l := path.Leaves(raw(field("a", wide)))
	if len(l) != 300 || !slices.Equal(l[299], []P{a, at(299)}) || !slices.Equal(l[256], []P{a, at(256)}) {
		t.Errorf("Leaves of a long list = %v", l)
	}
	deep := one
	for range 1 << 16 {
		deep = V{Kind: api.List, List: []V{deep}}
	}
	if l := path.Leaves(raw(field("a", deep))); len(l) != 1 || len(l[0]) != 1<<16+1 || l[0][1<<16] != at(0) {
		t.Error("Leaves of a deep value")
	}
}
