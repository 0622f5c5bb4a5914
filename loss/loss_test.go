package loss_test

import (
	"slices"
	"strings"
	"testing"

	"manifold/api"
	"manifold/loss"
	"manifold/schema"
	"manifold/value"
)

type (
	T = api.Type
	V = api.Value
	F = api.TypeField
	E = api.Expr
	M = api.Mapping
)

var flag = T{Kind: api.Bool}

func op(n int, l ...E) E               { return E{Op: n, Args: l} }
func at(s string) E                    { return E{Op: api.OpPath, Text: s} }
func has(s string) E                   { return E{Op: api.OpHas, Text: s} }
func sum(s string, scale int) E        { return E{Op: api.OpSum, Text: s, Int: scale} }
func lit(v V) E                        { return E{Op: api.OpValue, Value: []V{v}} }
func num(n int) E                      { return lit(value.Int(n)) }
func text(s string) E                  { return lit(value.Text(s)) }
func orElse(e E, v V) E                { return op(api.OpElse, e, lit(v)) }
func divide(a, b E, scale int) E       { return E{Op: api.OpDivide, Int: scale, Args: []E{a, b}} }
func field(name string, v V) api.Field { return api.Field{Name: name, Value: v} }
func rule(target string, e E) M        { return M{Rules: []api.Rule{{Target: target, Expr: e}}} }

func number(least, most int) T    { return T{Kind: api.Int, Min: least, Max: most} }
func list(least, most int, t T) T { return T{Kind: api.List, Min: least, Max: most, Elem: []T{t}} }
func required(name string, t T) F { return F{Name: name, Need: api.Required, Type: t} }
func optional(name string, t T) F { return F{Name: name, Need: api.Optional, Type: t} }
func defaulted(name string, t T, v V) F {
	return F{Name: name, Need: api.Defaulted, Type: t, Default: []V{v}}
}

// record returns the type of a record. Fields without a number are numbered by their place.
func record(l ...F) T {
	for i := range l {
		if l[i].Number == 0 {
			l[i].Number = i + 1
		}
	}
	return T{Kind: api.Record, Fields: l}
}

func variant(l ...F) T {
	t := record(l...)
	t.Kind = api.Variant
	return t
}

func with(n int, f F) F {
	f.Number = n
	return f
}

// digits returns a record type with fields that have digits.
func digits(names ...string) T {
	var l []F
	for _, name := range names {
		l = append(l, required(name, number(0, 9)))
	}
	return record(l...)
}

// rules returns the mapping of the rules of several ones.
func rules(l ...M) M {
	var m M
	for _, x := range l {
		m.Rules = append(m.Rules, x.Rules...)
	}
	return m
}

// reading returns a mapping that depends on what is at paths.
func reading(l ...string) M {
	var m M
	for i, s := range l {
		e := at(s)
		if strings.Contains(s, "[*]") {
			e = sum(s, 0)
		}
		m = rules(m, rule(string(rune('a'+i)), e))
	}
	return m
}

func words(s string) []string { return strings.Fields(s) }

// order returns a type with parts of all kinds.
func order() T {
	return record(required("id", number(0, 9)), optional("to", digits("city", "street")), required("items", list(0, 9, record(required("sku", flag), optional("tags", list(0, 3, flag))))), required("paid", variant(required("card", digits("number")), required("cash", flag))), optional("none", record()))
}

const orderLeaves = "id to.city to.street items[*].sku items[*].tags[*] paid?card.number paid?cash none"

func TestP19_1Lost(t *testing.T) {
	for i, c := range []struct {
		m    M
		from string
		kept string
	}{
		{M{}, "body", ""}, {rule("a", num(1)), "body", ""}, {reading("body"), "body", orderLeaves}, {reading("bod"), "body", ""}, {reading("body_"), "body", ""},
		{reading("body.id"), "body", "id"}, {reading("body.to"), "body", "to.city to.street"}, {reading("body.to.city"), "body", "to.city"}, {reading("body.to.city", "body.id"), "body", "id to.city"}, {reading("body.zz"), "body", ""}, {reading("body.none"), "body", "none"}, {reading("body.none.x"), "body", "none"}, {reading("body.id.x"), "body", "id"}, {reading("body.id[0]"), "body", "id"},
		{reading("body.items"), "body", "items[*].sku items[*].tags[*]"}, {reading("body.items[*]"), "body", "items[*].sku items[*].tags[*]"}, {reading("body.items[0]"), "body", "items[*].sku items[*].tags[*]"}, {reading("body.items[*].sku"), "body", "items[*].sku"}, {reading("body.items[255].sku"), "body", "items[*].sku"}, {reading("body.items[1].tags[2]"), "body", "items[*].tags[*]"}, {reading("body.items[*].tags[2]"), "body", "items[*].tags[*]"}, {reading("body.items[1].tags[*]"), "body", "items[*].tags[*]"}, {reading("body.items.sku"), "body", ""}, {reading("body.items?sku"), "body", ""},
		{reading("body.paid"), "body", "paid?card.number paid?cash"}, {reading("body.paid?card"), "body", "paid?card.number"}, {reading("body.paid?cash"), "body", "paid?cash"}, {reading("body.paid.cash"), "body", ""}, {reading("body.paid?card.number.x"), "body", "paid?card.number"}, {reading("body?id"), "body", ""}, {reading("body[0]"), "body", ""},
		{rule("a", has("body.to")), "body", "to.city to.street"}, {rule("a", op(api.OpAdd, at("body.id"), op(api.OpLength, at("body.items")))), "body", "id items[*].sku items[*].tags[*]"}, {rule("a", op(api.OpIf, has("key"), at("body.to.city"), num(1))), "body", "to.city"},
		// Other places of messages.
		{reading("reply.id"), "body", ""}, {reading("reply.id", "body.to"), "reply", "id"}, {reading("id"), "id", orderLeaves}, {reading("id"), "body", ""}, {reading("a.b.id"), "a.b", "id"}, {reading("a.b"), "a.b", orderLeaves}, {reading("a"), "a.b", orderLeaves}, {reading("a.c.id"), "a.b", ""}, {reading("a.id"), "a.b", ""}, {reading("b.id"), "a.b", ""}, {reading("a.b.c.to"), "a.b.c", "to.city to.street"}, {reading("a.b"), "a.b.c", orderLeaves}, {reading("a[0]"), "a.b", ""}, {reading("a[*].id"), "a.b", ""}, {reading("a?b.id"), "a.b", ""}, {reading("a.b?id"), "a.b", ""},
		// Expressions that are not valid have no sources.
		{rule("a", at("body..id")), "body", ""}, {rule("a", op(api.OpAdd, at("body.id"))), "body", ""},
	} {
		lost := slices.DeleteFunc(words(orderLeaves), func(s string) bool { return slices.Contains(words(c.kept), s) })
		if l, e := loss.Lost(c.m, order(), c.from); !slices.Equal(l, lost) || e != api.OK {
			t.Errorf("%d: Lost = %v, %d, want %v", i, l, e, lost)
		}
		if l, e := loss.Kept(c.m, order(), c.from); !slices.Equal(l, words(c.kept)) || e != api.OK {
			t.Errorf("%d: Kept = %v, %d, want %v", i, l, e, c.kept)
		}
	}
}

// TestP19_1Texts checks leaves whose texts are no texts of paths: the type itself, and paths that are too long.
func TestP19_1Texts(t *testing.T) {
	for _, m := range []M{{}, reading("key"), reading("body"), reading("body.x")} {
		lost, kept := []string{""}, []string(nil)
		if len(m.Rules) > 0 && m.Rules[0].Expr.Text != "key" {
			lost, kept = kept, lost
		}
		if l, e := loss.Lost(m, record(), "body"); !slices.Equal(l, lost) || e != api.OK {
			t.Errorf("Lost(%v) = %q, %d", m, l, e)
		}
		if l, e := loss.Kept(m, record(), "body"); !slices.Equal(l, kept) || e != api.OK {
			t.Errorf("Kept(%v) = %q, %d", m, l, e)
		}
	}
	name := strings.Repeat("n", api.MaxName)
	deep := record(required("a", flag), required("b", flag))
	for range api.MaxDepth - 2 {
		deep = record(required(name, deep))
	}
	long := strings.Repeat(name+".", api.MaxDepth-2)
	if l, e := loss.Lost(reading("body."+name), deep, "body"); len(l) != 0 || e != api.OK {
		t.Error(l, e)
	}
	if l, e := loss.Kept(reading("body."+name), deep, "body"); !slices.Equal(l, []string{long + "a", long + "b"}) || e != api.OK {
		t.Error(l, e)
	}
	deep = record(required(name, deep))
	if l, e := loss.Lost(reading("body."+name), deep, "body"); len(l) != 0 || e != api.ErrDepth {
		t.Error(l, e)
	}
	wide := record(required(name, record(required(name, record(required(name, record(required(name, record(required(name, record(required(name, digits(name, "a")))))))))))))
	long = strings.Repeat(name+".", 6)
	if l, e := loss.Lost(reading("key"), wide, "body"); !slices.Equal(l, []string{long + name, long + "a"}) || e != api.OK {
		t.Error(l, e)
	}
}

func TestP19_1Errors(t *testing.T) {
	bad := number(9, 0)
	for i, c := range []struct {
		m    M
		t    T
		from string
		e    api.Errno
	}{
		{rules(rule("a", num(1)), rule("a", num(1))), bad, "", api.ErrDuplicate}, {rule("a[0]", num(1)), bad, "", api.ErrPath}, {rule("", num(1)), T{}, "", api.ErrShort},
		{M{}, bad, "", api.ErrRange}, {M{}, T{}, "", api.ErrKind}, {M{}, number(0, 9), "", api.ErrKind}, {M{}, list(0, 1, order()), "", api.ErrKind}, {M{}, variant(required("a", order())), "body[*]", api.ErrKind}, {M{}, record(required("a", bad)), "", api.ErrRange},
		{M{}, order(), "", api.ErrShort}, {M{}, order(), "body[*]", api.ErrPath}, {M{}, order(), "body[0]", api.ErrPath}, {M{}, order(), "body?a", api.ErrPath}, {M{}, order(), "body.", api.ErrSyntax}, {M{}, order(), "body[*].", api.ErrSyntax}, {M{}, order(), strings.Repeat("a", 201), api.ErrLong}, {M{}, order(), strings.Repeat("a.", 16) + "a", api.ErrLimit}, {M{}, order(), "body.a", api.OK},
	} {
		if l, e := loss.Lost(c.m, c.t, c.from); e != c.e || e != api.OK && len(l) > 0 {
			t.Errorf("%d: Lost = %v, %d, want %d", i, l, e, c.e)
		}
		if l, e := loss.Kept(c.m, c.t, c.from); e != c.e || len(l) > 0 {
			t.Errorf("%d: Kept = %v, %d, want %d", i, l, e, c.e)
		}
	}
}

func TestP19_2Dropped(t *testing.T) {
	ab, a, c := digits("a", "b"), digits("a"), record(with(3, required("a", number(0, 9))))
	of := func(t T) T { return record(required("r", t)) }
	for i, x := range []struct {
		old, new T
		dropped  string
	}{
		{ab, ab, ""}, {ab, a, "b"}, {a, ab, ""}, {ab, record(), "a b"}, {ab, c, "a b"}, {record(), ab, ""},
		// Fields are found by their numbers, whatever their names, needs and types are.
		{ab, digits("b", "a"), ""}, {ab, digits("c"), "b"}, {ab, record(with(2, optional("x", flag))), "a"}, {of(ab), of(number(0, 9)), ""}, {of(number(0, 9)), of(T{Kind: api.Decimal, Max: 9}), ""}, {of(ab), of(list(0, 1, a)), ""}, {of(ab), of(variant(required("a", a))), ""}, {of(variant(required("a", a), required("b", a))), of(ab), ""},
		// What is below them is dropped with them.
		{order(), record(), orderLeaves}, {order(), record(with(3, required("x", order().Fields[2].Type))), "id to.city to.street paid?card.number paid?cash none"}, {of(of(ab)), of(record()), "r.r.a r.r.b"},
		// At all levels.
		{of(ab), of(a), "r.b"}, {of(list(0, 3, ab)), of(list(2, 2, a)), "r[*].b"}, {of(list(0, 0, list(0, 3, ab))), of(list(0, 3, list(0, 3, a))), "r[*][*].b"}, {of(list(0, 3, ab)), of(list(0, 3, flag)), ""}, {order(), record(order().Fields[0], optional("to", digits("city")), required("items", list(0, 9, digits("sku"))), with(5, required("x", flag))), "to.street items[*].tags[*] paid?card.number paid?cash"},
		// Cases are found in the same way, but none of them is dropped.
		{variant(required("c", ab), required("d", ab)), variant(required("d", a), required("c", c)), "?c.b ?d.a ?d.b"}, {variant(required("c", ab), required("d", ab)), variant(required("c", a)), "?c.b"}, {of(variant(required("c", ab), required("d", ab))), of(variant(with(2, required("x", a)))), "r?d.b"},
		// Types that are no records.
		{number(0, 9), flag, ""}, {number(0, 9), number(1, 2), ""}, {ab, number(0, 9), ""}, {number(0, 9), ab, ""}, {list(0, 3, ab), list(0, 3, a), "[*].b"}, {list(0, 3, list(0, 3, of(ab))), list(0, 3, list(0, 3, of(a))), "[*][*].r.b"}, {list(0, 3, variant(required("c", ab))), list(0, 3, variant(required("c", a))), "[*]?c.b"}, {list(0, 3, ab), ab, ""}, {variant(required("c", ab)), record(required("c", a)), ""}, {record(required("c", ab)), variant(required("c", a)), ""},
	} {
		if l, e := loss.Dropped(x.old, x.new); !slices.Equal(l, words(x.dropped)) || e != api.OK {
			t.Errorf("%d: Dropped = %v, %d, want %v", i, l, e, x.dropped)
		}
	}
	for i, x := range []struct {
		old, new T
		e        api.Errno
	}{
		{T{}, number(9, 0), api.ErrKind}, {number(9, 0), T{}, api.ErrRange}, {ab, number(9, 0), api.ErrRange}, {ab, T{}, api.ErrKind}, {T{}, ab, api.ErrKind}, {list(0, 300, ab), a, api.ErrRange},
	} {
		if l, e := loss.Dropped(x.old, x.new); e != x.e || len(l) > 0 {
			t.Errorf("%d: Dropped = %v, %d, want %d", i, l, e, x.e)
		}
	}
}

func TestP19_3Chain(t *testing.T) {
	copies := func(l ...string) M {
		var m M
		for _, s := range l {
			target, source, _ := strings.Cut(s, "=")
			m = rules(m, rule(target, at(source)))
		}
		return m
	}
	two := record(required("r", digits("x", "y")), required("n", number(0, 9)))
	for i, c := range []struct {
		l     []M
		types []T
		lost  string
	}{
		{nil, []T{order()}, ""}, {nil, []T{digits("a", "b")}, ""},
		{[]M{{}}, []T{order(), digits("a")}, orderLeaves}, {[]M{copies("a=body")}, []T{order(), digits("a")}, ""}, {[]M{copies("a=bod.a")}, []T{digits("a", "b"), digits("a")}, "a b"}, {[]M{copies("a=body.b")}, []T{digits("a", "b"), digits("a")}, "a"}, {[]M{copies("a=key.b")}, []T{digits("a", "b"), digits("a")}, "a b"},
		// A rule counts only if its Target touches a leaf that is needed.
		{[]M{copies("z=body.b")}, []T{digits("a", "b"), digits("a")}, "a b"}, {[]M{copies("a.z=body.b")}, []T{digits("a", "b"), digits("a")}, "a"}, {[]M{copies("r=body.b")}, []T{digits("a", "b"), two}, "a"}, {[]M{copies("r.x=body.b", "r.y=body.a")}, []T{digits("a", "b", "c"), two}, "c"}, {[]M{copies("r.z=body.b")}, []T{digits("a", "b"), two}, "a b"}, {[]M{copies("a=body.b")}, []T{digits("a", "b"), record()}, "a"},
		{[]M{copies("r.x=body.a", "r.y=body.b", "n=body.c"), copies("s=body.r.x")}, []T{digits("a", "b", "c"), two, digits("s")}, "b c"}, {[]M{copies("r.x=body.a", "r.y=body.b", "n=body.c"), copies("s=body.r")}, []T{digits("a", "b", "c"), two, digits("s")}, "c"}, {[]M{copies("r=body.a", "n=body.c"), copies("s=body.r.x")}, []T{digits("a", "b", "c"), two, digits("s")}, "b c"}, {[]M{copies("r.x=body.a", "n=body.c"), copies("s=body")}, []T{digits("a", "b", "c"), two, digits("s")}, "b"}, {[]M{copies("r.x=body.a", "n=body.c"), copies("s=key")}, []T{digits("a", "b", "c"), two, digits("s")}, "a b c"}, {[]M{copies("r.x=body.a", "n=body.c"), copies("z=body.n")}, []T{digits("a", "b", "c"), two, digits("s")}, "a b c"},
		{[]M{copies("a=body.b", "b=body.c", "c=body.a"), copies("a=body.b", "b=body.c", "c=body.a"), copies("a=body.a")}, []T{digits("a", "b", "c"), digits("a", "b", "c"), digits("a", "b", "c"), digits("a")}, "a b"},
		{[]M{copies("l=body.items", "n=body.id"), rule("n", sum("body.l[*].sku", 0))}, []T{order(), record(required("l", order().Fields[2].Type), required("n", flag)), digits("n")}, "id to.city to.street paid?card.number paid?cash none"}, {[]M{rules(rule("n", op(api.OpLength, at("body.items"))), rule("c", at("body.paid?cash")))}, []T{order(), digits("c", "n")}, "id to.city to.street paid?card.number none"},
	} {
		if l, e := loss.Chain(c.l, c.types); !slices.Equal(l, words(c.lost)) || e != api.OK {
			t.Errorf("%d: Chain = %v, %d, want %v", i, l, e, c.lost)
		}
	}
	if l, e := loss.Chain([]M{copies("a=key.b")}, []T{record(), digits("a")}); !slices.Equal(l, []string{""}) || e != api.OK {
		t.Errorf("Chain = %q, %d", l, e)
	}
	if l, e := loss.Chain([]M{copies("a=body.b")}, []T{record(), digits("a")}); len(l) != 0 || e != api.OK {
		t.Errorf("Chain = %q, %d", l, e)
	}
}

func TestP19_3Errors(t *testing.T) {
	bad, twice, one := number(9, 0), rules(rule("a", num(1)), rule("a", num(1))), digits("a")
	for i, c := range []struct {
		l     []M
		types []T
		e     api.Errno
	}{
		{nil, nil, api.ErrLong}, {nil, []T{bad, bad}, api.ErrLong}, {[]M{twice}, nil, api.ErrLong}, {[]M{twice}, []T{bad}, api.ErrLong}, {[]M{{}}, []T{one, one, one}, api.ErrLong}, {[]M{{}, {}}, []T{one, one}, api.ErrLong},
		{[]M{twice}, []T{bad, {}}, api.ErrRange}, {[]M{twice}, []T{{}, bad}, api.ErrKind}, {[]M{twice}, []T{one, bad}, api.ErrRange}, {[]M{twice}, []T{number(0, 9), bad}, api.ErrKind}, {[]M{twice}, []T{one, flag}, api.ErrKind}, {nil, []T{flag}, api.ErrKind}, {nil, []T{bad}, api.ErrRange},
		{[]M{twice}, []T{one, one}, api.ErrDuplicate}, {[]M{{}, twice}, []T{one, one, one}, api.ErrDuplicate}, {[]M{rule("", num(1)), twice}, []T{one, one, one}, api.ErrShort}, {[]M{twice, rule("", num(1))}, []T{one, one, one}, api.ErrDuplicate}, {[]M{rule("a?b", num(1))}, []T{one, one}, api.ErrPath},
	} {
		if l, e := loss.Chain(c.l, c.types); e != c.e || len(l) > 0 {
			t.Errorf("%d: Chain = %v, %d, want %d", i, l, e, c.e)
		}
	}
	if e := schema.Check(order()); e != api.OK {
		t.Fatal(e)
	}
}
