package mapping_test

import (
	"slices"
	"strconv"
	"strings"
	"testing"

	"manifold/api"
	"manifold/mapping"
	"manifold/schema"
	"manifold/value"
)

// applyCase is a call of Apply and what it returns.
type applyCase struct {
	m      M
	env    V
	target T
	want   V
	e      api.Errno
}

func expectApply(t *testing.T, l []applyCase) {
	t.Helper()
	for i, c := range l {
		if v, e := mapping.Apply(c.m, c.env, c.target); !value.Equal(v, c.want) || e != c.e {
			t.Errorf("%d: Apply = %v, %d, want %v, %d", i, v, e, c.want, c.e)
		}
	}
}

func TestP18_3Apply(t *testing.T) {
	env := environment(field("count", value.Int(2)), field("name", value.Text("a")), field("price", value.Int(3)), field("to", value.Record(field("city", value.Text("x")))))
	total := rule("total", op(api.OpMultiply, at("body.price"), at("body.count")))
	who := rule("who.name", at("body.name"))
	digit, three := number(0, 9), value.Int(3)
	order := record(required("total", digit), required("who", record(optional("name", texts(0, 5)))), defaulted("state", texts(0, 5), value.Text("new")))
	inner := record(optional("x", digit), defaulted("y", digit, three))
	deep := record(optional("b", record(optional("c", inner))), optional("a", digit))
	made := func(l ...api.Field) V { return value.Record(l...) }
	expectApply(t, []applyCase{
		{rules(total, who), env, order, made(field("state", value.Text("new")), field("total", value.Int(6)), field("who", made(field("name", value.Text("a"))))), api.OK},
		{rules(who, total), env, order, made(field("state", value.Text("new")), field("total", value.Int(6)), field("who", made(field("name", value.Text("a"))))), api.OK},
		{rules(total, who, rule("state", text("old"))), env, order, made(field("state", value.Text("old")), field("total", value.Int(6)), field("who", made(field("name", value.Text("a"))))), api.OK},
		{rules(total, who, rule("state", at("body.state"))), env, order, made(field("state", value.Text("new")), field("total", value.Int(6)), field("who", made(field("name", value.Text("a"))))), api.OK},
		// The records on the way are there even if nothing is put into them.
		{rules(total, rule("who.name", at("body.none"))), env, order, made(field("state", value.Text("new")), field("total", value.Int(6)), field("who", made())), api.OK},
		{rule("b.c.x", at("body.none")), env, deep, made(field("b", made(field("c", made(field("y", three)))))), api.OK},
		{rules(rule("b.c.x", at("body.none")), rule("b.c.y", at("body.none"))), env, deep, made(field("b", made(field("c", made(field("y", three)))))), api.OK},
		{rules(rule("b.c.x", at("body.count")), rule("b.c.y", at("body.none"))), env, deep, made(field("b", made(field("c", made(field("x", value.Int(2)), field("y", three)))))), api.OK},
		{rules(rule("b.c.y", at("body.none")), rule("b.c.x", at("body.count"))), env, deep, made(field("b", made(field("c", made(field("x", value.Int(2)), field("y", three)))))), api.OK},
		{rule("b.c", at("body.none")), env, deep, made(field("b", made())), api.OK},
		{rule("b", at("body.none")), env, deep, made(), api.OK},
		{rule("a", at("body.none")), env, deep, made(), api.OK},
		{M{}, env, deep, made(), api.OK},
		{M{}, made(), deep, made(), api.OK},
		// Records that are put are completed, too.
		{rule("b.c", at("body.to")), environment(field("to", made(field("x", value.Int(1))))), deep, made(field("b", made(field("c", made(field("x", value.Int(1)), field("y", three)))))), api.OK},
		{rule("b", at("body")), environment(field("c", made())), deep, made(field("b", made(field("c", made(field("y", three)))))), api.OK},
		{rule("l", at("body.l")), environment(field("l", value.List(made(), made(field("y", value.Int(1)))))), record(required("l", list(0, 2, inner))), made(field("l", value.List(made(field("y", three)), made(field("y", value.Int(1)))))), api.OK},
		// Fields are in the order of their names.
		{rules(rule("z", num(1)), rule("a", num(2)), rule("m.z", num(3)), rule("b", num(4)), rule("m.a", num(5))), env, record(required("z", digit), required("m", record(required("z", digit), required("a", digit))), required("b", digit), required("a", digit)), made(field("a", value.Int(2)), field("b", value.Int(4)), field("m", made(field("a", value.Int(5)), field("z", three))), field("z", value.Int(1))), api.OK},
		// Null counts as absent.
		{rule("a", at("body")), V{Kind: api.Record, Fields: []api.Field{{Name: "body"}}}, deep, made(), api.OK},
		{rule("total", at("body")), V{Kind: api.Record, Fields: []api.Field{{Name: "body"}}}, order, V{}, api.ErrAbsent},
	})
}

func TestP18_3Errors(t *testing.T) {
	digit := number(0, 9)
	env := environment(field("n", value.Int(1)), field("s", value.Text("x")))
	n, none, fails := at("body.n"), at("body.none"), divide(at("body.n"), num(0), 0)
	one := record(required("a", digit))
	two := record(required("a", digit), required("b", record(required("c", digit), optional("d", digit))))
	expectApply(t, []applyCase{
		// Form and the environment come first.
		{targets("a", "a"), V{}, T{}, V{}, api.ErrDuplicate},
		{targets("a[0]"), V{}, one, V{}, api.ErrPath},
		{rule("a", E{}), V{}, one, V{}, api.ErrKind},
		{rule("a", at("")), V{}, one, V{}, api.ErrKind},
		{rule("a", at("")), value.List(), one, V{}, api.ErrKind},
		{rule("a", at("")), value.Variant("body", value.Int(1)), one, V{}, api.ErrKind},
		{M{}, V{}, record(), V{}, api.ErrKind},
		// Then the expressions, in order.
		{rule("a", at("")), env, one, V{}, api.ErrShort},
		{rules(rule("a", fails), rule("b", at(""))), env, one, V{}, api.ErrDivide},
		{rules(rule("a", at("")), rule("b", fails)), env, one, V{}, api.ErrShort},
		{rules(rule("a", none), rule("x", fails)), env, one, V{}, api.ErrDivide},
		{rules(rule("a", text("x")), rule("x", fails)), env, one, V{}, api.ErrDivide},
		{rule("a", op(api.OpAdd, n, none)), env, one, V{}, api.ErrAbsent},
		{rule("x", op(api.OpAdd, n, at("body.s"))), env, one, V{}, api.ErrType},
		{rule("x", at("body.n.x")), env, one, V{}, api.ErrPath},
		// Then what is absent, before what does not fit.
		{rule("a", none), env, one, V{}, api.ErrAbsent},
		{rules(rule("a", none), rule("x", n)), env, one, V{}, api.ErrAbsent},
		{rules(rule("x", n), rule("a", none)), env, one, V{}, api.ErrAbsent},
		{rules(rule("b.c", none), rule("a", text("x"))), env, two, V{}, api.ErrAbsent},
		{rules(rule("b", none), rule("a", text("x"))), env, two, V{}, api.ErrAbsent},
		{rules(rule("b.d", none), rule("a", n)), env, two, V{}, api.ErrType},
		{rules(rule("b.d", none), rule("b.c", n), rule("a", n)), env, two, value.Record(field("a", value.Int(1)), field("b", value.Record(field("c", value.Int(1))))), api.OK},
		{rule("a.b", none), env, record(optional("a", one)), V{}, api.ErrType},
		{rule("a.a", none), env, record(optional("a", one)), V{}, api.ErrAbsent},
		{rule("a", none), env, record(optional("a", one)), value.Record(), api.OK},
		// It only leads to a field through Records.
		{rule("x", none), env, one, V{}, api.ErrType},
		{rule("a.x", none), env, one, V{}, api.ErrType},
		{rule("a", none), env, variant(required("a", digit)), V{}, api.ErrType},
		{rule("v.a", none), env, record(optional("v", variant(required("a", digit)))), V{}, api.ErrType},
		{rule("l.a", none), env, record(optional("l", list(0, 1, one))), V{}, api.ErrType},
		{rule("a", none), env, T{}, V{}, api.ErrType},
		{rule("a", none), env, T{Kind: 99, Fields: one.Fields}, V{}, api.ErrType},
		// Then what does not fit.
		{M{}, env, one, V{}, api.ErrType},
		{rule("a", num(10)), env, one, V{}, api.ErrType},
		{rule("a", at("body.s")), env, one, V{}, api.ErrType},
		{rules(rule("a", n), rule("x", n)), env, one, V{}, api.ErrType},
		{rule("a.x", n), env, one, V{}, api.ErrType},
		{M{}, env, digit, V{}, api.ErrType},
		{M{}, env, T{}, V{}, api.ErrType},
		{rule("a", n), env, record(required("a", number(9, 0))), V{}, api.ErrType},
		{M{}, env, record(defaulted("a", digit, value.Int(10))), V{}, api.ErrType},
		{M{}, env, record(F{Name: "a", Need: api.Defaulted, Type: digit}), V{}, api.ErrType},
	})
}

// optionals returns a record type with a number of Optional fields, which can be too many.
func optionals(n int) T {
	var l []F
	for i := range n {
		l = append(l, optional("f"+strconv.Itoa(i), number(0, 9)))
	}
	return record(l...)
}

// fill returns rules that give a value to a number of fields of a record.
func fill(n int, at string) M {
	var m M
	for i := range n {
		m = rules(m, rule(at+"f"+strconv.Itoa(i), num(1)))
	}
	return m
}

func TestP18_3TooManyFields(t *testing.T) {
	full, env := api.MaxFields, environment(field("n", value.Int(1)))
	none, fails := rule("x", at("body.none")), rule("x", divide(num(1), num(0), 0))
	within := record(required("r", optionals(full+1)))
	for i, c := range []struct {
		m      M
		target T
		e      api.Errno
	}{
		{fill(full, ""), optionals(full), api.OK}, {fill(full, ""), optionals(full + 1), api.OK}, {fill(full+1, ""), optionals(full + 1), api.ErrLimit}, {fill(full, "r."), within, api.OK}, {fill(full+1, "r."), within, api.ErrLimit},
		// What is absent is no field, but the records on the way to it are.
		{rules(fill(full, ""), none), optionals(full), api.OK}, {rules(none, fill(full, "")), optionals(full), api.OK}, {rules(fill(full, ""), rule("r.x", at("body.none"))), optionals(full), api.ErrLimit}, {rules(rule("r.x", at("body.none")), fill(full, "")), optionals(full), api.ErrLimit}, {rules(fill(full, "r."), rule("r.x", at("body.none"))), within, api.OK}, {rules(fill(full, "r."), rule("r.x.y", at("body.none"))), within, api.ErrLimit},
		{rules(fill(full, ""), rule("r.x.y.z", num(1))), optionals(full), api.ErrLimit}, {rules(rule("r.a", num(1)), fill(full-1, ""), rule("r.b", num(1))), record(), api.ErrType},
		// It comes behind the errors of expressions, and before everything else.
		{rules(fill(full+1, ""), fails), optionals(full), api.ErrDivide}, {rules(rule("a", at("body.none")), fill(full+1, "")), record(required("a", flag)), api.ErrLimit}, {fill(full+1, ""), T{}, api.ErrLimit}, {fill(full+1, ""), number(0, 9), api.ErrLimit}, {fill(full, ""), record(), api.ErrType},
	} {
		if v, e := mapping.Apply(c.m, env, c.target); e != c.e || value.IsNull(v) != (e != api.OK) {
			t.Errorf("%d: Apply = %v, %d, want %d", i, v, e, c.e)
		}
	}
}

// TestP18_3Valid checks the limits that a result has as a value, which can fit its type all the same.
func TestP18_3Valid(t *testing.T) {
	lists := func(n int) V {
		return value.List(slices.Repeat([]V{value.List(slices.Repeat([]V{value.Int(1)}, n)...)}, 256)...)
	}
	half, whole := lists(7), lists(15) // 1 + 256 * 8 and 1 + 256 * 16 values
	env := environment(field("half", half), field("n", value.Int(1)))
	of := list(0, 256, list(0, 256, number(0, 9)))
	both := record(optional("a", of), optional("b", of), optional("c", number(0, 9)))
	expectApply(t, []applyCase{
		{rule("a", at("body.half")), env, both, value.Record(field("a", half)), api.OK},
		{rules(rule("a", at("body.half")), rule("b", at("body.half"))), env, both, V{}, api.ErrLimit},
		{rules(rule("a", at("body.half")), rule("b", at("body.half")), rule("c", text("x"))), env, both, V{}, api.ErrType},
		// The environment fits a type, but is not valid.
		{rule("a", at("body.whole")), environment(field("whole", whole)), both, V{}, api.ErrLimit},
		{rule("c", op(api.OpLength, at("body.whole[255]"))), environment(field("whole", whole)), record(required("c", number(0, 20))), value.Record(field("c", value.Int(15))), api.OK},
		// Defaults count, too.
		{rule("a", at("body.half")), env, record(required("a", of), defaulted("b", of, half)), V{}, api.ErrLimit},
	})
	if e := schema.Check(both); e != api.OK {
		t.Fatal(e)
	}
	deep, inside, long := number(0, 9), value.Int(1), strings.Repeat("a.", api.MaxDepth-1)+"a"
	for range api.MaxDepth - 1 {
		deep, inside = record(required("a", deep)), value.Record(field("a", inside))
	}
	expectApply(t, []applyCase{
		{rule(long[2:], num(1)), env, deep, inside, api.OK},
		{rule(long, num(1)), env, record(required("a", deep)), V{}, api.ErrDepth},
		{rule("a", at("body")), value.Record(field("body", inside)), record(required("a", deep)), V{}, api.ErrDepth},
		{rule(long, num(10)), env, record(required("a", deep)), V{}, api.ErrType},
	})
}
