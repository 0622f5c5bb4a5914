package mapping_test

import (
	"strings"
	"testing"

	"manifold/api"
	"manifold/mapping"
	"manifold/value"
)

// checkCase is a call of Check and what it returns.
type checkCase struct {
	m           M
	env, target T
	total       bool
	e           api.Errno
}

func expectCheck(t *testing.T, l []checkCase) {
	t.Helper()
	for i, c := range l {
		if total, e := mapping.Check(c.m, c.env, c.target); total != c.total || e != c.e {
			t.Errorf("%d: Check = %v, %d, want %v, %d", i, total, e, c.total, c.e)
		}
	}
}

// digits returns a record type with required fields that have digits.
func digits(names ...string) T {
	var l []F
	for _, name := range names {
		l = append(l, required(name, number(0, 9)))
	}
	return record(l...)
}

func TestP18_2Order(t *testing.T) {
	env, target := record(required("body", digits("n"))), digits("a", "b")
	n := at("body.n")
	all := rules(rule("a", n), rule("b", n))
	bad := T{Kind: api.Record, Scale: 1}
	other := record(required("a", record(required("c", flag))), required("b", flag), optional("d", digits("e")))
	expectCheck(t, []checkCase{
		{all, env, target, true, api.OK},
		{M{}, record(), record(), true, api.OK},
		// Form, the environment and the target come first.
		{rules(all, rule("a", n)), T{}, T{}, false, api.ErrDuplicate},
		{rule("", n), T{}, T{}, false, api.ErrShort},
		{all, T{}, bad, false, api.ErrKind},
		{all, bad, T{}, false, api.ErrFormat},
		{all, number(0, 9), T{Kind: 99}, false, api.ErrKind},
		{all, number(9, 0), bad, false, api.ErrRange},
		{all, list(0, 1, env), bad, false, api.ErrKind},
		{all, variant(required("body", digits("n"))), target, false, api.ErrKind},
		{rule("x", E{}), env, bad, false, api.ErrFormat},
		{rule("x", E{}), env, T{}, false, api.ErrKind},
		{rule("x", E{}), env, number(0, 9), false, api.ErrKind},
		{rule("x", E{}), env, variant(required("a", flag)), false, api.ErrKind},
		// Then the rules in order, of each one the Target before the expression, and this before the kinds.
		{rule("x", E{}), env, target, false, api.ErrField},
		{rule("a.x", E{}), env, target, false, api.ErrKind},
		{rule("d.x", E{}), env, other, false, api.ErrField},
		{rule("d.e.f", E{}), env, other, false, api.ErrKind},
		{rule("a", E{}), env, target, false, api.ErrKind},
		{rule("a", E{Op: api.OpPath, Text: "body", Int: 1}), env, target, false, api.ErrFormat},
		{rule("a", at("")), env, target, false, api.ErrShort},
		{rule("a", at("n")), env, target, false, api.ErrPath},
		{rule("a", op(api.OpAdd, n, text("a"))), env, target, false, api.ErrType},
		{rule("a", text("a")), env, target, false, api.ErrType},
		{rules(rule("a", text("a")), rule("x", n)), env, target, false, api.ErrType},
		{rules(rule("x", n), rule("a", text("a"))), env, target, false, api.ErrField},
		{rules(rule("b", at("n")), rule("x", n)), env, target, false, api.ErrPath},
		{rules(rule("b", n), rule("x", n)), env, target, false, api.ErrField},
		{rules(rule("b", n), rule("a", at("n"))), env, target, false, api.ErrPath},
		// Then the fields that are neither given nor made.
		{rule("a", n), env, target, false, api.ErrField},
		{M{}, env, target, false, api.ErrField},
		{rule("b", text("a")), env, target, false, api.ErrType},
		{rule("b", at("n")), env, target, false, api.ErrPath},
		// Types and expressions that are too large.
		{rule("a", op(api.OpNot, at("n"))), record(required("body", T{Kind: api.List, Max: 257, Elem: []T{flag}})), target, false, api.ErrRange},
		{rule("a", E{Op: api.OpIn, Args: make([]E, 300)}), env, target, false, api.ErrKind},
	})
}

func TestP18_2Kinds(t *testing.T) {
	types := []T{flag, number(-5, 5), amount(0, -5, 5), amount(2, -500, 500), texts(0, 5), {Kind: api.Bytes, Max: 5}, {Kind: api.Date, Max: 5}, {Kind: api.Time, Max: 5}, list(0, 3, flag), digits("n"), variant(required("n", flag))}
	for i, from := range types {
		for j, to := range types {
			want := api.OK
			if i != j {
				want = api.ErrType
			}
			for _, f := range []F{required("a", to), optional("a", to)} {
				if total, e := mapping.Check(rule("a", at("body")), record(required("body", from)), record(f)); total != (i == j) || e != want {
					t.Errorf("Check from %v to %v = %v, %d", from, to, total, e)
				}
			}
		}
	}
}

func TestP18_2Fields(t *testing.T) {
	env := record(required("n", number(0, 9)), required("r", digits("a", "b")))
	n := at("n")
	inner := record(required("x", number(0, 9)), optional("y", number(0, 9)), defaulted("z", number(0, 9), value.Int(1)))
	of := func(f F) T { return record(f) }
	deep := of(optional("o", of(optional("p", of(required("q", of(optional("r", digits("s", "t")))))))))
	expectCheck(t, []checkCase{
		// Only Required fields have to be given or made.
		{M{}, env, of(optional("a", inner)), true, api.OK},
		{M{}, env, of(defaulted("a", flag, value.Bool(true))), true, api.OK},
		{M{}, env, of(required("a", inner)), false, api.ErrField},
		{M{}, env, of(required("a", record())), false, api.ErrField},
		{M{}, env, of(required("a", record(optional("b", flag)))), false, api.ErrField},
		// A Record that is made needs its Required fields, whether it has to be there or not.
		{rule("a.x", n), env, of(required("a", inner)), true, api.OK},
		{rule("a.x", n), env, of(optional("a", inner)), true, api.OK},
		{rule("a.y", n), env, of(required("a", inner)), false, api.ErrField},
		{rule("a.y", n), env, of(optional("a", inner)), false, api.ErrField},
		{rule("a.z", n), env, of(defaulted("a", inner, value.Record(field("x", value.Int(1)), field("z", value.Int(2))))), false, api.ErrField},
		{rules(rule("a.z", n), rule("a.x", n)), env, of(defaulted("a", inner, value.Record(field("x", value.Int(1)), field("z", value.Int(2))))), true, api.OK},
		// What is given is not made.
		{rule("a", at("r")), env, of(required("a", digits("a", "b"))), true, api.OK},
		{rule("a", at("r")), env, of(optional("a", digits("a"))), false, api.OK},
		{rule("a", at("r")), env, of(optional("a", digits("c"))), false, api.OK},
		// At all levels.
		{M{}, env, deep, true, api.OK},
		{rules(rule("o.p.q.r.s", n), rule("o.p.q.r.t", n)), env, deep, true, api.OK},
		{rule("o.p.q.r.s", n), env, deep, false, api.ErrField},
		{rule("o.p.q.r.t", n), env, deep, false, api.ErrField},
		{rule("o.p.q", at("n")), env, deep, false, api.ErrType},
		{rule("o.p.x", n), env, of(optional("o", record(optional("p", record(optional("x", number(0, 9)), required("q", record())))))), false, api.ErrField},
		{rule("o.p.x", n), env, of(optional("o", record(optional("p", digits("x")), required("q", flag)))), false, api.ErrField},
		{rule("o.p.x", n), env, record(optional("o", record(optional("p", digits("x")))), required("q", flag)), false, api.ErrField},
		// A name that begins in the same way is another one.
		{rule("ab", n), env, record(optional("ab", number(0, 9)), required("a", record())), false, api.ErrField},
		{rule("a.b", n), env, record(required("a", digits("b")), required("b", flag)), false, api.ErrField},
	})
}

func TestP18_2Total(t *testing.T) {
	env := record(required("n", number(0, 9)), optional("o", number(0, 9)), required("s", texts(0, 5)), required("l", list(0, 3, number(0, 9))))
	n, o := at("n"), at("o")
	of := func(f F) T { return record(f) }
	digit, two := number(0, 9), value.Int(2)
	both := record(required("a", digit), optional("b", digit))
	expectCheck(t, []checkCase{
		{rule("a", n), env, of(required("a", digit)), true, api.OK},
		// Within the type at the Target.
		{rule("a", n), env, of(required("a", number(0, 8))), false, api.OK},
		{rule("a", n), env, of(required("a", number(1, 9))), false, api.OK},
		{rule("a", n), env, of(required("a", number(-1, 10))), true, api.OK},
		{rule("a", text("x")), env, of(required("a", T{Kind: api.Text, Words: []string{"x", "y"}})), true, api.OK},
		{rule("a", text("z")), env, of(required("a", T{Kind: api.Text, Words: []string{"x", "y"}})), false, api.OK},
		{rule("a", at("l")), env, of(required("a", list(0, 3, digit))), true, api.OK},
		{rule("a", at("l")), env, of(required("a", list(0, 3, number(0, 8)))), false, api.OK},
		{rule("a", at("l")), env, of(required("a", list(0, 3, flag))), false, api.OK},
		// Absent.
		{rule("a", o), env, of(required("a", digit)), false, api.OK},
		{rule("a", o), env, of(optional("a", digit)), true, api.OK},
		{rule("a", o), env, of(defaulted("a", digit, two)), true, api.OK},
		{rule("a.b", o), env, of(optional("a", of(required("b", digit)))), false, api.OK},
		{rule("a.b", o), env, of(required("a", of(optional("b", digit)))), true, api.OK},
		{rule("a.b", o), env, of(required("a", of(defaulted("b", digit, two)))), true, api.OK},
		{rule("a", op(api.OpElse, o, n)), env, of(required("a", digit)), true, api.OK},
		{rule("a", at("l[0]")), env, of(required("a", digit)), false, api.OK},
		{rule("a", at("l[0]")), env, of(optional("a", digit)), true, api.OK},
		// Expressions that can fail.
		{rule("a", op(api.OpAdd, o, n)), env, of(optional("a", number(0, 18))), false, api.OK},
		{rule("a", divide(n, n, 2)), env, of(optional("a", amount(2, -most, most))), false, api.OK},
		{rule("a", divide(n, num(2), 2)), env, of(optional("a", amount(2, -most, most))), true, api.OK},
		{rule("a", op(api.OpNumber, at("s"))), env, of(optional("a", number(-most, most))), false, api.OK},
		// Each rule counts.
		{rules(rule("a", n), rule("b", n)), env, both, true, api.OK},
		{rules(rule("a", o), rule("b", n)), env, both, false, api.OK},
		{rules(rule("b", n), rule("a", o)), env, both, false, api.OK},
		{rules(rule("a", n), rule("b", op(api.OpAdd, n, n))), env, both, false, api.OK},
	})
}

// TestP18_2LargeTypes checks that types of any size have an end.
func TestP18_2LargeTypes(t *testing.T) {
	wide := record()
	for _, a := range "abcdefghijklmnopqrstuvwxyz" {
		for _, b := range "ab" {
			wide.Fields = append(wide.Fields, F{Number: len(wide.Fields) + 1, Name: string(a) + string(b), Need: api.Required, Type: flag})
		}
	}
	var m M
	for _, f := range wide.Fields {
		m = rules(m, rule(f.Name, at("body."+f.Name)))
	}
	expectCheck(t, []checkCase{
		{m, record(required("body", wide)), wide, true, api.OK},
		{M{Rules: m.Rules[1:]}, record(required("body", wide)), wide, false, api.ErrField},
		{M{Rules: m.Rules[:51]}, record(required("body", wide)), wide, false, api.ErrField},
	})
	deep := flag
	for range api.MaxDepth - 1 {
		deep = record(required("a", deep))
	}
	path := strings.Repeat("a.", api.MaxDepth-2) + "a"
	expectCheck(t, []checkCase{
		{rule(path, at(path)), deep, deep, true, api.OK},
		{rule(path+".a", at(path)), deep, deep, false, api.ErrKind},
		{rule(path, at(path)), record(required("a", deep)), deep, false, api.ErrDepth},
		{rule(path, at(path)), deep, record(required("a", deep)), false, api.ErrDepth},
	})
}
