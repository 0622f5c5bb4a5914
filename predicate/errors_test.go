package predicate_test

import (
	"testing"

	"manifold/api"
	"manifold/predicate"
	"manifold/value"
)

// expectError checks the error of all functions that take demands.
func expectError(t *testing.T, name string, env api.Type, l []D, want api.Errno) {
	t.Helper()
	if answer, w, e := predicate.Possible(env, l); answer != 0 || !value.IsNull(w) || e != want {
		t.Errorf("%s: Possible = %d, %v, %d, want %d", name, answer, w, e, want)
	}
	if n, e := predicate.Cases(env, l); n != 0 || e != want {
		t.Errorf("%s: Cases = %d, %d, want %d", name, n, e, want)
	}
}

func TestP20_1Errors(t *testing.T) {
	env := typed(t, exampleText)
	flag := api.Type{Kind: api.Bool}
	broken := api.Type{Kind: api.Record, Min: 1}
	good := D{Expr: condition(t, "b"), Outcome: predicate.True}
	with := func(s string) D { return D{Expr: condition(t, s), Outcome: predicate.True} }
	damaged := D{Expr: E{Op: 99}, Outcome: predicate.True}
	outside := func(outcome int) D { return D{Expr: condition(t, "b"), Outcome: outcome} }
	for _, c := range []struct {
		name string
		env  api.Type
		l    []D
		want api.Errno
	}{
		{"65 demands", env, make([]D, 65), api.ErrLimit}, {"65 demands without a type", api.Type{}, make([]D, 65), api.ErrLimit}, {"64 demands", env, make([]D, 64), api.ErrKind}, {"64 good demands and a bad one", env, append(repeated(t, "T b", 64), damaged), api.ErrLimit},
		{"outcome 0", env, []D{outside(0)}, api.ErrKind}, {"outcome 4", env, []D{outside(4)}, api.ErrKind}, {"outcome -1", env, []D{outside(-1)}, api.ErrKind}, {"an outcome behind a bad condition", env, []D{with("zz"), outside(4)}, api.ErrKind}, {"an outcome of a bad type", broken, []D{good, outside(4)}, api.ErrKind},
		{"no path", env, []D{with("zz")}, api.ErrPath}, {"a number", env, []D{with("n")}, api.ErrType}, {"an addition of texts", env, []D{with("one + 1 = 2")}, api.ErrType}, {"bytes in an order", env, []D{with(`raw < x"00"`)}, api.ErrType}, {"a text and a number", env, []D{with("one = 1")}, api.ErrType}, {"a scale", env, []D{with("d * 1.00000000000 = 2")}, api.ErrOverflow}, {"no operation", env, []D{damaged}, api.ErrKind}, {"an absent argument", env, []D{{Expr: E{Op: api.OpNot}, Outcome: 1}}, api.ErrShort}, {"a record", env, []D{with("f")}, api.ErrType},
		{"conditions in order", env, []D{good, with("zz"), with("n")}, api.ErrPath}, {"conditions in the other order", env, []D{good, with("n"), with("zz")}, api.ErrType}, {"a damaged one behind", env, []D{with("n"), damaged}, api.ErrType},
		{"a type of bools", flag, []D{good}, api.ErrKind}, {"a type of bools, without conditions", flag, nil, api.ErrKind}, {"a broken type", broken, []D{good}, api.ErrFormat}, {"a broken type, without conditions", broken, nil, api.ErrFormat}, {"a broken type and a damaged condition", broken, []D{damaged}, api.ErrKind}, {"no type", api.Type{}, nil, api.ErrKind}, {"a broken type of bools", api.Type{Kind: api.Bool, Min: 1}, nil, api.ErrFormat},
	} {
		expectError(t, c.name, c.env, c.l, c.want)
	}
}

func TestP20_3Errors(t *testing.T) {
	env := typed(t, exampleText)
	flag := api.Type{Kind: api.Bool}
	good, path, number := condition(t, "b"), condition(t, "zz"), condition(t, "n")
	for i, c := range []struct {
		env   api.Type
		given []E
		e     E
		want  api.Errno
	}{
		{env, make([]E, 65), good, api.ErrLimit}, {env, make([]E, 64), good, api.ErrKind}, {env, []E{path}, number, api.ErrPath}, {env, []E{number}, path, api.ErrType}, {env, []E{good}, path, api.ErrPath}, {env, nil, number, api.ErrType}, {flag, nil, good, api.ErrKind}, {api.Type{Kind: api.Record, Max: 1}, []E{good}, good, api.ErrFormat},
	} {
		if answer, w, e := predicate.Implies(c.env, c.given, c.e); answer != 0 || !value.IsNull(w) || e != c.want {
			t.Errorf("%d: Implies = %d, %v, %d, want %d", i, answer, w, e, c.want)
		}
	}
	for i, c := range []struct {
		env  api.Type
		a, b E
		want api.Errno
	}{
		{env, path, number, api.ErrPath}, {env, number, path, api.ErrType}, {env, good, number, api.ErrType}, {flag, good, good, api.ErrKind}, {env, good, E{}, api.ErrKind},
	} {
		if answer, w, e := predicate.Disjoint(c.env, c.a, c.b); answer != 0 || !value.IsNull(w) || e != c.want {
			t.Errorf("%d: Disjoint = %d, %v, %d, want %d", i, answer, w, e, c.want)
		}
	}
	for i, c := range []struct {
		env  api.Type
		e    E
		want api.Errno
	}{
		{env, path, api.ErrPath}, {env, number, api.ErrType}, {flag, good, api.ErrKind}, {env, E{}, api.ErrKind},
	} {
		if is, e := predicate.Decided(c.env, c.e); is || e != c.want {
			t.Errorf("%d: Decided = %t, %d, want %d", i, is, e, c.want)
		}
	}
	if answer, _, e := predicate.Implies(env, repeatedConditions(good, 64), good); answer != predicate.Yes || e != api.OK {
		t.Errorf("Implies of 64 conditions = %d, %d", answer, e)
	}
}

func repeatedConditions(x E, n int) []E {
	var l []E
	for range n {
		l = append(l, x)
	}
	return l
}
