package loss_test

import (
	"slices"
	"strings"
	"testing"

	"manifold/api"
	"manifold/loss"
	"manifold/mapping"
	"manifold/value"
)

// composition is a call of Compose, and the rules or the error that it returns.
type composition struct {
	first, second M
	mid           T
	want          M
	e             api.Errno
}

func expectCompositions(t *testing.T, l []composition) {
	t.Helper()
	for i, c := range l {
		if m, e := loss.Compose(c.first, c.second, c.mid); !mapping.Equal(m, c.want) || e != c.e {
			t.Errorf("%d: Compose = %v, %d, want %v, %d", i, m, e, c.want, c.e)
		}
	}
}

// none is the composition of mappings that cannot be composed.
func none(first, second M, mid T) composition {
	return composition{first, second, mid, M{}, api.ErrPath}
}

func TestP19_4Rules(t *testing.T) {
	n, a := digits("n"), at("body.a")
	double := func(e E) M { return rule("twice", op(api.OpMultiply, e, num(2))) }
	sums := op(api.OpAdd, at("body.a"), at("key.b"))
	nested := record(required("r", digits("n", "nn")), required("l", list(0, 3, digits("n"))), optional("v", variant(required("c", digits("n")))))
	expectCompositions(t, []composition{
		{rule("n", sums), double(at("body.n")), n, double(sums), api.OK},
		{rule("n", a), double(at("body.n")), n, double(a), api.OK},
		{rule("n", num(3)), double(at("body.n")), n, double(num(3)), api.OK},
		{rule("n", orElse(a, value.Int(1))), double(at("body.n")), n, double(orElse(a, value.Int(1))), api.OK},
		{rule("n", a), M{}, n, M{}, api.OK},
		{M{}, M{}, n, M{}, api.OK},
		{M{}, rule("x", num(1)), n, rule("x", num(1)), api.OK},
		{rule("n", a), rule("x.y", op(api.OpIf, has("body.n"), op(api.OpNegate, at("body.n")), num(1))), n, rule("x.y", op(api.OpIf, has("body.a"), op(api.OpNegate, a), num(1))), api.OK},
		{rules(rule("n", a), rule("nn", num(2))), rules(rule("y", at("body.nn")), rule("x", at("body.n"))), n, rules(rule("y", num(2)), rule("x", a)), api.OK},
		{rule("n", a), rule("x", divide(at("body.n"), num(2), 3)), n, rule("x", divide(a, num(2), 3)), api.OK},
		// All arguments, and paths that occur several times.
		{rule("n", a), rule("x", op(api.OpIn, at("body.n"), at("body.n"), num(1), at("body.n"))), n, rule("x", op(api.OpIn, a, a, num(1), a)), api.OK},
		// Parts behind the Target.
		{rules(rule("r.n", a), rule("r.nn", num(1))), rules(rule("x", at("body.r.n")), rule("y", at("body.r.nn"))), nested, rules(rule("x", a), rule("y", num(1))), api.OK},
		{rule("r", a), rule("x", at("body.r.n")), nested, rule("x", at("body.a.n")), api.OK},
		{rule("r", a), rule("x", at("body.r")), nested, rule("x", a), api.OK},
		{rule("l", at("key[2]?c")), rules(rule("x", at("body.l[1].n")), rule("y", sum("body.l[*].n", 2)), rule("z", at("body.l[0]"))), nested, rules(rule("x", at("key[2]?c[1].n")), rule("y", sum("key[2]?c[*].n", 2)), rule("z", at("key[2]?c[0]"))), api.OK},
		{rule("v", at("b")), rules(rule("x", at("body.v?c.n")), rule("y", has("body.v?d"))), nested, rules(rule("x", at("b?c.n")), rule("y", has("b?d"))), api.OK},
		{rule("r", a), rule("x", at("body.r.zz[3]")), nested, rule("x", at("body.a.zz[3]")), api.OK},
		none(rule("r", num(1)), rule("x", at("body.r.n")), nested),
		none(rule("r", orElse(a, value.Int(1))), rule("x", at("body.r.n")), nested),
		none(rule("r", op(api.OpIf, lit(value.Bool(true)), a, a)), rule("x", has("body.r.n")), nested),
		none(rule("r", has("body.a")), rule("x", has("body.r.n")), nested),
		// A Target that lies within the path, or beside it, is no such Target.
		none(rules(rule("r.n", a), rule("r.nn", a)), rule("x", at("body.r")), nested),
		none(rule("n", a), rule("x", at("body.nn")), n),
		none(rule("nn", a), rule("x", at("body.n")), n),
		none(rule("r", a), rule("x", at("body.rr.n")), nested),
		// Paths with other beginnings.
		none(rule("n", a), rule("x", at("body")), n),
		none(rule("n", a), rule("x", has("body")), n),
		none(rule("n", a), rule("x", at("key")), n),
		none(rule("n", a), rule("x", at("n")), n),
		none(rule("n", a), rule("x", at("key.n")), n),
		none(rule("n", a), rule("x", at("bodyn.n")), n),
		none(rule("n", a), rule("x", at("body?n")), n),
		none(rule("n", a), rule("x", at("body[0].n")), n),
		none(rule("n", a), rule("x", sum("body[*].n", 0)), n),
		none(rule("n", a), rule("x", sum("key[*]", 0)), n),
		none(rule("n", a), rule("x", has("key")), n),
		none(rule("n", a), rules(rule("x", at("body.n")), rule("y", at("key")), rule("z", at("body.n"))), n),
		none(rule("n", a), rule("x", op(api.OpElse, at("body.n"), at("key"))), n),
		// Fields that the type does not have.
		{rule("zz", sums), rule("x", at("body.zz")), n, rule("x", sums), api.OK},
		{rule("n.z", a), rule("x", at("body.n.z.y")), n, rule("x", at("body.a.y")), api.OK},
		none(M{}, rule("x", at("body.zz")), n),
		none(M{}, rule("x", at("body.n")), n),
	})
}

func TestP19_4HasAndSum(t *testing.T) {
	mid := record(optional("n", number(0, 9)), optional("l", list(0, 3, number(0, 9))), defaulted("d", number(0, 9), value.Int(4)))
	yes := rule("x", lit(value.Bool(true)))
	n, l, d := rule("x", has("body.n")), rule("x", sum("body.l[*]", 3)), rule("x", has("body.d"))
	expectCompositions(t, []composition{
		{rule("n", at("key.a[1]")), n, mid, rule("x", has("key.a[1]")), api.OK},
		{rule("n", num(0)), n, mid, yes, api.OK},
		{rule("n", lit(value.Bool(false))), n, mid, yes, api.OK},
		none(rule("n", orElse(at("key"), value.Int(1))), n, mid),
		none(rule("n", op(api.OpAdd, at("key"), num(1))), n, mid),
		none(rule("n", has("key")), n, mid),
		none(rule("n", sum("key[*]", 0)), n, mid),
		none(M{}, n, mid),
		// Defaulted fields are always there.
		{M{}, d, mid, yes, api.OK},
		{rule("d", at("key")), d, mid, yes, api.OK},
		{rule("d", num(1)), d, mid, yes, api.OK},
		{rule("d", op(api.OpAdd, at("key"), num(1))), d, mid, yes, api.OK},
		none(M{}, rule("x", has("body.d.x")), mid),
		none(rule("d", at("key")), rule("x", has("body.d.x")), mid),
		{rule("l", at("key.l")), l, mid, rule("x", sum("key.l[*]", 3)), api.OK},
		none(rule("l", lit(value.Int(3))), l, mid),
		none(rule("l", op(api.OpElse, at("key"), at("key"))), l, mid),
		none(M{}, l, mid),
		none(rule("d", at("key")), rule("x", sum("body.d[*]", 0)), mid),
		none(M{}, rule("x", sum("body.d[*]", 0)), mid),
	})
}

func TestP19_4Defaults(t *testing.T) {
	digit, one, two := number(0, 9), value.Int(1), value.Int(2)
	a, x := at("key.a"), func(s string) M { return rule("x", at(s)) }
	constant := func(v V) M { return rule("x", lit(v)) }
	plain := record(defaulted("d", digit, one), required("n", digit))
	inner := record(optional("o", digit), defaulted("d", digit, one), required("n", digit))
	of := func(f F) T { return record(f) }
	full := value.Record(field("d", two), field("n", value.Int(3)))
	deep := of(optional("p", of(required("q", of(optional("r", inner))))))
	lists := record(defaulted("l", list(0, 3, digit), value.List(one)), defaulted("r", of(required("l", list(0, 3, digit))), value.Record(field("l", value.List(one, two)))), defaulted("v", variant(required("c", digit)), value.Variant("c", two)))
	expectCompositions(t, []composition{
		{rule("d", a), x("body.d"), plain, rule("x", orElse(a, one)), api.OK},
		{rule("d", num(5)), x("body.d"), plain, rule("x", orElse(num(5), one)), api.OK},
		{rule("n", a), x("body.d"), plain, constant(one), api.OK},
		{M{}, x("body.d"), plain, constant(one), api.OK},
		none(M{}, x("body.n"), plain),
		none(rule("d", a), x("body.d.z"), plain),
		// A rule gives something that contains Defaulted fields.
		none(rule("r", a), x("body.r"), of(required("r", inner))),
		none(rule("r", a), x("body.r.n"), of(required("r", inner))),
		none(rule("r", a), x("body.r.d"), of(required("r", inner))),
		none(rule("r", a), x("body.r"), of(optional("r", list(0, 3, inner)))),
		none(rule("r", a), x("body.r"), of(optional("r", variant(required("c", flag), required("d", inner))))),
		none(rule("r", a), x("body.r.z.n"), of(required("r", of(required("s", of(required("t", inner))))))),
		none(rule("r", a), rule("x", has("body.r")), of(required("r", inner))),
		none(rule("r.s", a), x("body.r.s"), of(required("r", of(required("s", inner))))),
		{rule("r.n", a), x("body.r.n"), of(required("r", inner)), rule("x", a), api.OK},
		{rule("r.o", a), x("body.r.o"), of(defaulted("r", inner, full)), rule("x", a), api.OK},
		{rule("r", a), x("body.r.n"), of(required("r", digits("n"))), x("key.a.n"), api.OK},
		none(rule("r", a), x("body.r.n"), of(defaulted("r", digits("n"), value.Record(field("n", one))))),
		// The shortest path to a default counts, unless a rule leads to its field.
		{M{}, x("body.r.d"), of(defaulted("r", inner, full)), constant(two), api.OK},
		{M{}, x("body.r.n"), of(defaulted("r", inner, full)), constant(value.Int(3)), api.OK},
		none(M{}, x("body.r.o"), of(defaulted("r", inner, full))),
		none(M{}, x("body.r.z"), of(defaulted("r", inner, full))),
		none(M{}, x("body.r.n.z"), of(defaulted("r", inner, full))),
		{rule("r.n", a), x("body.r.d"), of(defaulted("r", inner, full)), constant(one), api.OK},
		none(rule("r.d", a), x("body.r.n"), of(defaulted("r", inner, full))),
		{rule("r.d", a), x("body.r.d"), of(defaulted("r", inner, full)), rule("x", orElse(a, one)), api.OK},
		{rule("rr.n", a), x("body.r.d"), of(defaulted("r", inner, full)), constant(two), api.OK},
		{M{}, x("body.r.d"), of(required("r", inner)), constant(one), api.OK},
		none(M{}, x("body.r"), of(required("r", inner))),
		{M{}, rule("x", op(api.OpElse, at("body.r.n"), at("body.r.d"))), of(defaulted("r", inner, full)), rule("x", op(api.OpElse, lit(value.Int(3)), lit(two))), api.OK},
		// Optional fields on the way have to be made.
		none(M{}, x("body.r.d"), of(optional("r", inner))),
		{rule("r.n", a), x("body.r.d"), of(optional("r", inner)), constant(one), api.OK},
		{rule("r.zz", a), x("body.r.d"), of(optional("r", inner)), constant(one), api.OK},
		none(rule("rr.n", a), x("body.r.d"), of(optional("r", inner))),
		none(rule("p.q.n", a), x("body.p.q.r.d"), deep),
		none(rule("p.s", a), x("body.p.q.r.d"), deep),
		{rule("p.q.r.n", a), x("body.p.q.r.d"), deep, constant(one), api.OK},
		none(M{}, x("body.p.d"), of(optional("p", of(defaulted("d", digit, one))))),
		none(M{}, rule("x", has("body.p.d")), of(optional("p", of(defaulted("d", digit, one))))),
		{rule("p.q.n", a), x("body.p.d.e"), of(optional("p", of(defaulted("d", of(required("e", digit)), value.Record(field("e", two)))))), constant(two), api.OK},
		// What a default has is found by path.Get, whose paths begin with a Field.
		{M{}, x("body.r.l[1]"), lists, constant(two), api.OK},
		none(M{}, x("body.r.l[2]"), lists),
		none(M{}, x("body.r.l?c"), lists),
		none(M{}, x("body.l[0]"), lists),
		none(M{}, x("body.v?c"), lists),
		{M{}, rule("x", has("body.r.l[1]")), lists, rule("x", lit(value.Bool(true))), api.OK},
		{M{}, rule("x", has("body.l")), lists, rule("x", lit(value.Bool(true))), api.OK},
		{M{}, rule("x", has("body.v")), lists, rule("x", lit(value.Bool(true))), api.OK},
		none(M{}, rule("x", sum("body.r.l[*]", 0)), lists),
		none(M{}, rule("x", sum("body.l[*]", 0)), lists),
	})
}

// TestP19_4DefaultsWithin checks defaults of fields behind other parts than fields.
func TestP19_4DefaultsWithin(t *testing.T) {
	digit, one := number(0, 9), value.Int(1)
	inner := record(defaulted("d", digit, one), optional("o", record(defaulted("d", digit, one))))
	mid := record(required("l", list(0, 3, inner)), required("v", variant(required("c", inner), required("e", flag))), optional("m", list(0, 3, inner)))
	constant := rule("x", lit(one))
	x := func(s string) M { return rule("x", at(s)) }
	expectCompositions(t, []composition{
		{M{}, x("body.l[2].d"), mid, constant, api.OK},
		{M{}, x("body.v?c.d"), mid, constant, api.OK},
		none(M{}, x("body.l[3].d"), mid),
		none(M{}, x("body.l[2].o.d"), mid),
		none(M{}, x("body.l?c.d"), mid),
		none(M{}, x("body.l.d"), mid),
		none(M{}, x("body.v?d.d"), mid),
		none(M{}, x("body.v.c.d"), mid),
		none(M{}, x("body.v?e.d"), mid),
		none(M{}, x("body.v?c?d"), mid),
		none(M{}, x("body.m[0].d"), mid),
		{rule("m.x", num(1)), x("body.m[0].d"), mid, constant, api.OK},
		none(M{}, rule("x", sum("body.l[*].d", 0)), mid),
	})
}

func TestP19_4Errors(t *testing.T) {
	n, bad, good := digits("n"), number(9, 0), rule("n", at("body.a"))
	use, twice, odd := rule("x", at("body.n")), rules(rule("a", num(1)), rule("a", num(1))), rule("n", at(""))
	deep := at("body.a")
	for range api.MaxDepth - 2 {
		deep = op(api.OpNegate, deep)
	}
	wide := E{Op: api.OpIn, Args: slices.Repeat([]E{at("body.a")}, 200)}
	long := "key" + strings.Repeat("."+strings.Repeat("n", 15), 12) // of 195 bytes
	for i, c := range []composition{
		// Both mappings and the type come first.
		{twice, odd, bad, M{}, api.ErrDuplicate}, {rule("", num(1)), twice, bad, M{}, api.ErrShort}, {good, twice, bad, M{}, api.ErrDuplicate}, {good, rule("a[0]", num(1)), bad, M{}, api.ErrPath}, {odd, twice, T{}, M{}, api.ErrDuplicate},
		{odd, odd, bad, M{}, api.ErrRange}, {odd, odd, T{}, M{}, api.ErrKind}, {odd, odd, number(0, 9), M{}, api.ErrKind}, {odd, odd, list(0, 1, n), M{}, api.ErrKind},
		// Then the expressions of both.
		{odd, rule("x", E{}), n, M{}, api.ErrShort}, {rule("n", E{}), odd, n, M{}, api.ErrKind}, {good, odd, n, M{}, api.ErrShort}, {good, rule("x", E{}), n, M{}, api.ErrKind}, {rules(good, rule("m", E{})), odd, n, M{}, api.ErrKind}, {good, rules(rule("y", at("key")), odd), n, M{}, api.ErrShort}, {rules(odd, rule("m", E{})), use, n, M{}, api.ErrShort}, {good, rules(odd, rule("m", E{})), n, M{}, api.ErrShort},
		// Then what cannot be composed, before what is too large.
		{rule("n", deep), rules(rule("x", op(api.OpNegate, op(api.OpNegate, at("body.n")))), rule("y", at("key"))), n, M{}, api.ErrPath}, {rule("n", deep), rule("x", op(api.OpNegate, op(api.OpNegate, at("body.n")))), n, M{}, api.ErrDepth}, {rule("n", deep), rule("x", op(api.OpNegate, at("body.n"))), n, rule("x", op(api.OpNegate, deep)), api.OK},
		{rule("n", wide), rule("x", op(api.OpEqual, at("body.n"), at("body.n"))), n, M{}, api.ErrLimit}, {rule("n", wide), use, n, rule("x", wide), api.OK},
		{rule("n", at(long)), rule("x", at("body.n.nnnn")), n, rule("x", at(long+".nnnn")), api.OK}, {rule("n", at(long)), rule("x", at("body.n.nnnnn")), n, M{}, api.ErrLong}, {rule("n", at("a"+strings.Repeat(".a", 14))), rule("x", has("body.n.a")), n, rule("x", has("a"+strings.Repeat(".a", 15))), api.OK}, {rule("n", at("a"+strings.Repeat(".a", 14))), rule("x", has("body.n.a.a")), n, M{}, api.ErrLimit},
		{rules(rule("n", deep), rule("m", wide)), rules(rule("x", op(api.OpEqual, at("body.m"), at("body.m"))), rule("y", op(api.OpNegate, op(api.OpNegate, at("body.n"))))), n, M{}, api.ErrLimit},
		{M{}, rule("x", at("body.l")), record(defaulted("l", list(0, 1, flag), value.List())), M{}, api.ErrType}, {rule("l", at("body.l")), rule("x", at("body.l")), record(defaulted("l", list(0, 1, flag), value.List())), M{}, api.ErrType},
	} {
		if m, e := loss.Compose(c.first, c.second, c.mid); !mapping.Equal(m, c.want) || e != c.e {
			t.Errorf("%d: Compose = %v, %d, want %v, %d", i, m, e, c.want, c.e)
		}
	}
}

// TestP19_4LargeSubstitutes checks that expressions in which each path gets a large one have an end.
func TestP19_4LargeSubstitutes(t *testing.T) {
	wide := E{Op: api.OpIn, Args: slices.Repeat([]E{at("body.a")}, 255)}
	uses := E{Op: api.OpIn, Args: slices.Repeat([]E{at("body.n")}, 255)}
	var second M
	for _, a := range "abcdefghijklmnop" {
		for _, b := range "abcdefghijklmnop" {
			second = rules(second, rule(string(a)+"."+string(b), uses))
		}
	}
	if m, e := loss.Compose(rule("n", wide), second, digits("n")); e != api.ErrLimit || len(m.Rules) > 0 {
		t.Errorf("Compose: %d rules, %d", len(m.Rules), e)
	}
}
