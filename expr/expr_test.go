package expr_test

import (
	"math"
	"slices"
	"strings"
	"testing"

	"manifold/api"
	"manifold/expr"
	"manifold/schema"
	"manifold/value"
)

type (
	T = api.Type
	V = api.Value
	F = api.TypeField
	E = api.Expr
	R = expr.Result
)

const most = api.MaxNumber

var flag = T{Kind: api.Bool}

func op(n int, l ...E) E               { return E{Op: n, Args: l} }
func at(s string) E                    { return E{Op: api.OpPath, Text: s} }
func has(s string) E                   { return E{Op: api.OpHas, Text: s} }
func lit(v V) E                        { return E{Op: api.OpValue, Value: []V{v}} }
func text(s string) E                  { return lit(value.Text(s)) }
func num(n int) E                      { return lit(value.Int(n)) }
func dec(n, scale int) E               { return lit(value.Decimal(n, scale)) }
func sum(s string, scale int) E        { return E{Op: api.OpSum, Text: s, Int: scale} }
func divide(a, b E, scale int) E       { return E{Op: api.OpDivide, Int: scale, Args: []E{a, b}} }
func field(name string, v V) api.Field { return api.Field{Name: name, Value: v} }

var yes, no = lit(value.Bool(true)), lit(value.Bool(false))

func bounded(kind, least, most int) T { return T{Kind: kind, Min: least, Max: most} }
func number(least, most int) T        { return bounded(api.Int, least, most) }
func amount(s, least, most int) T     { return T{Kind: api.Decimal, Scale: s, Min: least, Max: most} }
func words(l ...string) T             { return T{Kind: api.Text, Words: l} }
func texts(least, most int) T         { return bounded(api.Text, least, most) }
func list(least, most int, t T) T     { return T{Kind: api.List, Min: least, Max: most, Elem: []T{t}} }

// record returns the type of a record, whose fields are numbered in their order.
func record(l ...F) T {
	for i := range l {
		l[i].Number = i + 1
	}
	return T{Kind: api.Record, Fields: l}
}

func variant(l ...F) T {
	t := record(l...)
	t.Kind = api.Variant
	return t
}

func required(name string, t T) F { return F{Name: name, Need: api.Required, Type: t} }
func optional(name string, t T) F { return F{Name: name, Need: api.Optional, Type: t} }

// nested returns an expression within a number of OpNot.
func nested(n int, e E) E {
	for range n {
		e = op(api.OpNot, e)
	}
	return e
}

// wide returns an OpIn with a number of expressions in all.
func wide(size int, last E) E {
	return E{Op: api.OpIn, Args: append(slices.Repeat([]E{num(1)}, size-2), last)}
}

// arities has the least and the greatest number of arguments of each operation; -1 stands for any number.
var arities = [api.NumOps + 1][2]int{{}, {0, 0}, {0, 0}, {1, 1}, {2, 2}, {2, 2}, {2, 2}, {2, 2}, {2, 2}, {2, 2}, {2, 2}, {2, 2}, {2, 2}, {2, 2}, {2, 2}, {2, 2}, {1, 1}, {2, 2}, {1, 1}, {1, 1}, {1, 1}, {3, 3}, {0, 0}, {2, 2}, {3, 3}, {2, -1}, {0, 0}, {1, 1}, {1, 1}}

// plain returns a valid expression with an operation and some arguments.
func plain(n int, args ...E) E {
	e := op(n, args...)
	switch n {
	case api.OpValue:
		e.Value = []V{value.Int(1)}
	case api.OpPath, api.OpHas:
		e.Text = "a"
	case api.OpSum:
		e.Text = "a[*]"
	}
	return e
}

func expectCheck(t *testing.T, e E, want api.Errno) {
	t.Helper()
	if got := expr.Check(e); got != want {
		t.Errorf("Check(%v) = %d, want %d", e, got, want)
	}
}

func TestP16_1Arity(t *testing.T) {
	for n := 1; n <= api.NumOps; n++ {
		least, greatest := arities[n][0], arities[n][1]
		for count := range 6 {
			want := api.OK
			switch {
			case count < least:
				want = api.ErrShort
			case greatest >= 0 && count > greatest:
				want = api.ErrFormat
			}
			expectCheck(t, plain(n, slices.Repeat([]E{num(1)}, count)...), want)
		}
	}
	for _, n := range []int{0, -1, 29, math.MinInt, math.MaxInt} {
		expectCheck(t, op(n), api.ErrKind)
		expectCheck(t, E{Op: n, Int: 1, Text: "a", Value: []V{{}}, Args: []E{op(0)}}, api.ErrKind)
	}
}

func TestP16_1UnusedFields(t *testing.T) {
	for n := 1; n <= api.NumOps; n++ {
		e := plain(n, slices.Repeat([]E{num(1)}, arities[n][0])...)
		expectCheck(t, e, api.OK)
		usesInt, usesText := n == api.OpDivide || n == api.OpSum, n == api.OpPath || n == api.OpHas || n == api.OpSum
		withInt, withText, withValue := e, e, e
		withInt.Int = 1
		withText.Text = "b" + strings.TrimPrefix(e.Text, "a")
		withValue.Value = []V{value.Bool(true)}
		for _, c := range []struct {
			e    E
			used bool
		}{{withInt, usesInt}, {withText, usesText}, {withValue, n == api.OpValue}} {
			want := api.ErrFormat
			if c.used {
				want = api.OK
			}
			expectCheck(t, c.e, want)
			// It comes before what is missing.
			if !c.used && len(e.Args) > 0 {
				c.e.Args = e.Args[1:]
				expectCheck(t, c.e, api.ErrFormat)
			}
		}
		if n != api.OpValue {
			e.Value = []V{}
			expectCheck(t, e, api.OK)
		}
		if !usesInt {
			e.Int = -1
			expectCheck(t, e, api.ErrFormat)
		}
	}
}

func TestP16_1Values(t *testing.T) {
	for _, v := range []V{value.Bool(true), value.Int(-most), value.Decimal(1, 12), value.Text(""), value.Text("é"), value.Bytes("\xFF"), value.Date(0), value.Time(-1)} {
		expectCheck(t, lit(v), api.OK)
	}
	for _, c := range []struct {
		l []V
		e api.Errno
	}{
		{nil, api.ErrShort}, {[]V{}, api.ErrShort}, {[]V{value.Int(1), value.Int(1)}, api.ErrFormat}, {[]V{{}, {}}, api.ErrFormat}, {[]V{{}}, api.ErrAbsent}, {[]V{{Kind: 11}}, api.ErrKind}, {[]V{{Kind: api.Int, Scale: 1}}, api.ErrFormat}, {[]V{value.Int(most + 1)}, api.ErrRange}, {[]V{value.Text("\xFF")}, api.ErrText}, {[]V{value.Text(strings.Repeat("x", 1025))}, api.ErrLong},
		{[]V{value.List()}, api.ErrType}, {[]V{value.Record()}, api.ErrType}, {[]V{value.Variant("a", value.Int(1))}, api.ErrType}, {[]V{value.List(value.Int(most + 1))}, api.ErrRange}, {[]V{value.Variant("A", value.Int(1))}, api.ErrName},
	} {
		expectCheck(t, E{Op: api.OpValue, Value: c.l}, c.e)
		expectCheck(t, op(api.OpNot, E{Op: api.OpValue, Value: c.l}), c.e)
	}
}

func TestP16_1Paths(t *testing.T) {
	for s, want := range map[string][2]api.Errno{"a": {api.OK, api.ErrPath}, "a.b[3]?c": {api.OK, api.ErrPath}, "a[*]": {api.ErrPath, api.OK}, "a[*].b[*]?c[1]": {api.ErrPath, api.OK}, "": {api.ErrShort, api.ErrShort}, strings.Repeat("a", 201): {api.ErrLong, api.ErrLong}, "a..b": {api.ErrSyntax, api.ErrSyntax}, "[*]": {api.ErrSyntax, api.ErrSyntax}, "a[256]": {api.ErrSyntax, api.ErrSyntax}, "a[*" + "]b": {api.ErrSyntax, api.ErrSyntax}, "a" + strings.Repeat("[0]", 16): {api.ErrLimit, api.ErrLimit}, "a" + strings.Repeat("[*]", 15): {api.ErrPath, api.OK}} {
		expectCheck(t, at(s), want[0])
		expectCheck(t, has(s), want[0])
		expectCheck(t, sum(s, 0), want[1])
	}
	for _, scale := range []int{-1, 13, math.MinInt, math.MaxInt} {
		expectCheck(t, divide(num(1), num(1), scale), api.ErrRange)
		expectCheck(t, divide(op(0), num(1), scale), api.ErrRange)
		expectCheck(t, sum("a[*]", scale), api.ErrRange)
		expectCheck(t, sum("a", scale), api.ErrPath)
		expectCheck(t, sum("", scale), api.ErrShort)
		expectCheck(t, E{Op: api.OpDivide, Int: scale}, api.ErrShort)
	}
	for scale := range 13 {
		expectCheck(t, divide(num(1), num(1), scale), api.OK)
		expectCheck(t, sum("a[*]", scale), api.OK)
	}
}

func TestP16_1Limits(t *testing.T) {
	bad := op(0)
	expectCheck(t, nested(7, at("a")), api.OK)
	expectCheck(t, nested(8, at("a")), api.ErrDepth)
	expectCheck(t, nested(7, bad), api.ErrKind)
	expectCheck(t, nested(8, bad), api.ErrDepth)
	expectCheck(t, nested(1<<16, bad), api.ErrDepth)
	expectCheck(t, wide(256, num(1)), api.OK)
	expectCheck(t, wide(257, num(1)), api.ErrLimit)
	expectCheck(t, wide(256, bad), api.ErrKind)
	expectCheck(t, wide(257, bad), api.ErrLimit)
	expectCheck(t, wide(255, op(api.OpNot, num(1))), api.OK)
	expectCheck(t, wide(256, op(api.OpNot, bad)), api.ErrLimit)
	expectCheck(t, wide(256, nested(8, bad)), api.ErrLimit)
	expectCheck(t, wide(240, nested(8, bad)), api.ErrDepth)
	// Preorder: the first error of the arguments of the first one comes before the second one.
	expectCheck(t, op(api.OpAnd, op(api.OpNot, op(api.OpAnd)), bad), api.ErrShort)
	expectCheck(t, op(api.OpAnd, bad, op(api.OpNot)), api.ErrKind)
	expectCheck(t, op(api.OpNot, op(api.OpNot, at("A")), bad), api.ErrFormat)
}

// large is an environment with all kinds of values.
func large() V {
	return value.Record(field("b", value.Bool(true)), field("i", value.Int(3)), field("j", value.Int(-7)), field("d", value.Decimal(250, 2)), field("t", value.Text("aé")), field("x", value.Bytes("\xFF\x00")), field("day", value.Date(11016)), field("at", value.Time(951782400000)),
		field("l", value.List(value.Record(field("p", value.Decimal(15, 1)), field("k", value.List(value.Int(1), value.Int(2)))), value.Record(field("p", value.Decimal(25, 1)), field("n", value.Int(4)), field("k", value.List())))), field("m", value.List(value.Int(1), value.Decimal(5, 1))), field("r", value.Record(field("a", value.Int(1)))), field("v", value.Variant("card", value.Int(7))), field("e", value.List()))
}

// evaluating is an expression with its value or its error in the environment large.
type evaluating struct {
	e    E
	want V
	x    api.Errno
}

func expectEval(t *testing.T, l []evaluating) {
	t.Helper()
	env := large()
	for i, c := range l {
		if v, x := expr.Eval(c.e, env); !value.Equal(v, c.want) || x != c.x {
			t.Errorf("%d: Eval(%v) = %v, %d, want %v, %d", i, c.e, v, x, c.want, c.x)
		}
	}
	if !value.Equal(env, large()) {
		t.Error("the environment was modified")
	}
}

func is(e E, b bool) evaluating         { return evaluating{e, value.Bool(b), api.OK} }
func gives(e E, v V) evaluating         { return evaluating{e, v, api.OK} }
func fails(e E, x api.Errno) evaluating { return evaluating{e, V{}, x} }
func absent(e E) evaluating             { return evaluating{e, V{}, api.OK} }

func TestP16_3Paths(t *testing.T) {
	env := large()
	l, _ := value.Field(env, "l")
	expectEval(t, []evaluating{
		gives(at("i"), value.Int(3)), gives(at("l"), l), gives(at("l[0].k[1]"), value.Int(2)), gives(at("v?card"), value.Int(7)), gives(at("r"), value.Record(field("a", value.Int(1)))), absent(at("zz")), absent(at("l[2].p")), absent(at("l[0].n")), absent(at("v?cash")), absent(at("zz.a[3]?b")), fails(at("i.a"), api.ErrPath), fails(at("i[0]"), api.ErrPath), fails(at("l.p"), api.ErrPath), fails(at("r?a"), api.ErrPath), fails(at("v.card"), api.ErrPath), fails(at("l[0].p.q"), api.ErrPath),
		is(has("i"), true), is(has("l[1].n"), true), is(has("zz"), false), is(has("l[0].n"), false), is(has("v?card"), true), is(has("v?cash"), false), fails(has("i.a"), api.ErrPath), is(has("e"), true), is(has("e[0].x"), false),
		gives(lit(value.Bytes("\xFF")), value.Bytes("\xFF")), gives(text("a"), value.Text("a")), gives(dec(10, 1), value.Decimal(10, 1)), gives(lit(value.Time(5)), value.Time(5)),
	})
}

func TestP16_3Logic(t *testing.T) {
	zero := divide(num(1), num(0), 0)
	expectEval(t, []evaluating{
		is(op(api.OpNot, yes), false), is(op(api.OpNot, no), true), fails(op(api.OpNot, num(0)), api.ErrType), fails(op(api.OpNot, at("zz")), api.ErrAbsent),
		is(op(api.OpAnd, yes, yes), true), is(op(api.OpAnd, yes, no), false), is(op(api.OpAnd, no, yes), false), is(op(api.OpAnd, no, num(1)), false), is(op(api.OpAnd, no, zero), false), is(op(api.OpAnd, no, at("zz")), false), is(op(api.OpAnd, no, at("i.a")), false), fails(op(api.OpAnd, yes, num(1)), api.ErrType), fails(op(api.OpAnd, num(0), yes), api.ErrType), fails(op(api.OpAnd, yes, at("zz")), api.ErrAbsent), fails(op(api.OpAnd, at("zz"), no), api.ErrAbsent), fails(op(api.OpAnd, yes, zero), api.ErrDivide),
		is(op(api.OpOr, no, no), false), is(op(api.OpOr, no, yes), true), is(op(api.OpOr, yes, no), true), is(op(api.OpOr, yes, num(1)), true), is(op(api.OpOr, yes, zero), true), is(op(api.OpOr, yes, at("zz")), true), fails(op(api.OpOr, no, num(1)), api.ErrType), fails(op(api.OpOr, num(1), yes), api.ErrType), fails(op(api.OpOr, no, at("zz")), api.ErrAbsent), fails(op(api.OpOr, at("zz"), yes), api.ErrAbsent),
		gives(op(api.OpIf, yes, num(1), zero), value.Int(1)), gives(op(api.OpIf, no, zero, text("a")), value.Text("a")), gives(op(api.OpIf, at("b"), at("r"), num(1)), value.Record(field("a", value.Int(1)))), absent(op(api.OpIf, no, num(1), at("zz"))), absent(op(api.OpIf, yes, at("zz"), num(1))), gives(op(api.OpIf, yes, num(1), at("zz")), value.Int(1)), fails(op(api.OpIf, at("zz"), num(1), num(2)), api.ErrAbsent), fails(op(api.OpIf, num(1), num(1), num(2)), api.ErrType), fails(op(api.OpIf, yes, zero, num(2)), api.ErrDivide), fails(op(api.OpIf, num(1), zero, zero), api.ErrType),
		gives(op(api.OpElse, at("i"), zero), value.Int(3)), gives(op(api.OpElse, at("zz"), text("a")), value.Text("a")), absent(op(api.OpElse, at("zz"), at("zy"))), gives(op(api.OpElse, op(api.OpElse, at("zz"), at("zy")), num(1)), value.Int(1)), gives(op(api.OpElse, op(api.OpIf, no, num(1), at("zz")), num(2)), value.Int(2)), fails(op(api.OpElse, at("zz"), zero), api.ErrDivide), fails(op(api.OpElse, zero, num(1)), api.ErrDivide), fails(op(api.OpElse, at("i.a"), num(1)), api.ErrPath), fails(op(api.OpElse, op(api.OpNegate, at("zz")), num(1)), api.ErrAbsent), fails(op(api.OpNegate, op(api.OpElse, at("zz"), at("zz"))), api.ErrAbsent), fails(op(api.OpLength, op(api.OpIf, no, text("a"), at("zz"))), api.ErrAbsent),
	})
}

func TestP16_3Comparisons(t *testing.T) {
	day, now := lit(value.Date(1)), lit(value.Time(1))
	rows := []evaluating{
		is(op(api.OpEqual, at("d"), dec(25, 1)), true), is(op(api.OpEqual, num(2), dec(20, 1)), true), is(op(api.OpEqual, num(2), dec(21, 1)), false), is(op(api.OpEqual, text("a"), text("a")), true), is(op(api.OpEqual, text("a"), text("A")), false), is(op(api.OpEqual, lit(value.Bytes("a")), lit(value.Bytes("a"))), true), is(op(api.OpEqual, day, lit(value.Date(1))), true), is(op(api.OpEqual, yes, at("b")), true), is(op(api.OpEqual, now, lit(value.Time(2))), false),
		is(op(api.OpEqual, at("l"), at("l")), true), is(op(api.OpEqual, at("e"), at("l[1].k")), true), is(op(api.OpEqual, at("l"), at("e")), false), is(op(api.OpEqual, at("r"), at("r")), true), is(op(api.OpEqual, at("l[0]"), at("l[1]")), false), is(op(api.OpEqual, at("v"), at("v")), true), fails(op(api.OpEqual, at("v"), at("r")), api.ErrType), fails(op(api.OpEqual, num(1), text("1")), api.ErrType), fails(op(api.OpEqual, text("a"), lit(value.Bytes("a"))), api.ErrType), fails(op(api.OpEqual, day, now), api.ErrType), fails(op(api.OpEqual, yes, num(1)), api.ErrType), fails(op(api.OpEqual, num(1), day), api.ErrType), fails(op(api.OpEqual, at("zz"), at("zz")), api.ErrAbsent), fails(op(api.OpEqual, num(1), at("zz")), api.ErrAbsent), fails(op(api.OpEqual, at("l"), at("r")), api.ErrType),
		is(op(api.OpUnequal, text("a"), text("b")), true), is(op(api.OpUnequal, num(2), dec(20, 1)), false), is(op(api.OpUnequal, at("r"), at("l[0]")), true), fails(op(api.OpUnequal, num(1), text("1")), api.ErrType), fails(op(api.OpUnequal, at("zz"), num(1)), api.ErrAbsent),
		is(op(api.OpIn, text("b"), text("a"), text("b")), true), is(op(api.OpIn, text("c"), text("a"), text("b")), false), is(op(api.OpIn, num(2), dec(10, 1), dec(20, 1), num(3)), true), fails(op(api.OpIn, num(1), text("a"), num(1)), api.ErrType), is(op(api.OpIn, num(1), num(1), text("a")), true), fails(op(api.OpIn, num(1), num(2), text("a"), num(1)), api.ErrType), fails(op(api.OpIn, at("zz"), num(1)), api.ErrAbsent), fails(op(api.OpIn, num(1), num(2), at("zz")), api.ErrAbsent), is(op(api.OpIn, at("e"), at("l"), at("l[1].k")), true),
		// All arguments are evaluated before any is compared.
		fails(op(api.OpIn, num(1), num(1), at("zz")), api.ErrAbsent), fails(op(api.OpIn, num(1), text("a"), divide(num(1), num(0), 0)), api.ErrDivide), fails(op(api.OpIn, at("zz"), at("i.a")), api.ErrAbsent),
	}
	for _, c := range []struct {
		a, b E
		c    int
	}{{num(1), num(2), -1}, {num(2), num(2), 0}, {dec(25, 1), num(2), 1}, {num(2), dec(200, 2), 0}, {dec(19, 1), dec(2, 0), -1}, {num(most), dec(-most, 12), 1}, {text("B"), text("a"), -1}, {text("a"), text("a"), 0}, {text("ab"), text("a"), 1}, {text(""), text("a"), -1}, {text("é"), text("z"), 1}, {day, lit(value.Date(2)), -1}, {day, day, 0}, {now, lit(value.Time(-5)), 1}, {no, yes, -1}, {yes, yes, 0}, {yes, no, 1}} {
		rows = append(rows, is(op(api.OpLess, c.a, c.b), c.c < 0), is(op(api.OpAtMost, c.a, c.b), c.c <= 0), is(op(api.OpGreater, c.a, c.b), c.c > 0), is(op(api.OpAtLeast, c.a, c.b), c.c >= 0), is(op(api.OpEqual, c.a, c.b), c.c == 0), is(op(api.OpUnequal, c.a, c.b), c.c != 0), is(op(api.OpIn, c.a, c.b), c.c == 0))
	}
	bytes := lit(value.Bytes("a"))
	for _, n := range []int{api.OpLess, api.OpAtMost, api.OpGreater, api.OpAtLeast} {
		for _, l := range [][2]E{{bytes, bytes}, {num(1), text("1")}, {day, now}, {day, num(1)}, {yes, num(1)}, {at("l"), at("l")}, {at("r"), at("r")}, {at("v"), at("v")}, {text("a"), bytes}} {
			rows = append(rows, fails(op(n, l[0], l[1]), api.ErrType))
		}
		rows = append(rows, fails(op(n, at("zz"), at("i.a")), api.ErrAbsent), fails(op(n, at("i.a"), at("zz")), api.ErrPath), fails(op(n, num(1), at("zz")), api.ErrAbsent))
	}
	expectEval(t, rows)
}

func TestP16_3Numbers(t *testing.T) {
	expectEval(t, []evaluating{
		gives(op(api.OpMultiply, at("d"), at("i")), value.Decimal(750, 2)), gives(op(api.OpAdd, at("i"), num(2)), value.Int(5)), gives(op(api.OpAdd, num(1), dec(1, 0)), value.Decimal(2, 0)), gives(op(api.OpAdd, num(1), dec(25, 1)), value.Decimal(35, 1)), gives(op(api.OpAdd, dec(25, 2), dec(25, 1)), value.Decimal(275, 2)), gives(op(api.OpSubtract, at("i"), at("d")), value.Decimal(50, 2)), gives(op(api.OpSubtract, num(1), num(3)), value.Int(-2)), gives(op(api.OpMultiply, num(-2), num(3)), value.Int(-6)), gives(op(api.OpMultiply, dec(15, 1), dec(15, 1)), value.Decimal(225, 2)),
		gives(divide(num(1), at("i"), 2), value.Decimal(33, 2)), gives(divide(num(6), num(3), 0), value.Decimal(2, 0)), gives(divide(num(1), num(2), 0), value.Decimal(0, 0)), gives(divide(num(3), num(2), 0), value.Decimal(2, 0)), gives(divide(dec(1, 1), dec(3, 2), 3), value.Decimal(3333, 3)), gives(op(api.OpNegate, at("d")), value.Decimal(-250, 2)), gives(op(api.OpNegate, num(-4)), value.Int(4)), gives(op(api.OpNegate, num(0)), value.Int(0)),
		fails(op(api.OpAdd, num(most), num(1)), api.ErrOverflow), fails(op(api.OpSubtract, num(-most), num(1)), api.ErrOverflow), fails(op(api.OpMultiply, num(most), num(2)), api.ErrOverflow), fails(op(api.OpMultiply, dec(1, 12), dec(1, 1)), api.ErrOverflow), fails(op(api.OpAdd, num(1000), dec(0, 12)), api.ErrOverflow), fails(divide(num(1), num(0), 2), api.ErrDivide), fails(divide(num(1), dec(0, 3), 2), api.ErrDivide), fails(divide(num(most), dec(1, 12), 0), api.ErrOverflow),
		fails(op(api.OpAdd, text("1"), num(1)), api.ErrType), fails(op(api.OpAdd, num(1), yes), api.ErrType), fails(op(api.OpSubtract, lit(value.Date(2)), lit(value.Date(1))), api.ErrType), fails(op(api.OpMultiply, num(1), lit(value.Time(1))), api.ErrType), fails(divide(num(1), text("0"), 0), api.ErrType), fails(op(api.OpNegate, lit(value.Date(1))), api.ErrType), fails(op(api.OpNegate, text("")), api.ErrType), fails(op(api.OpNegate, at("m")), api.ErrType),
		// The arguments are evaluated before their kinds are looked at.
		fails(op(api.OpAdd, text("1"), at("zz")), api.ErrAbsent), fails(op(api.OpAdd, text("1"), at("i.a")), api.ErrPath), fails(op(api.OpAdd, at("zz"), at("i.a")), api.ErrAbsent), fails(op(api.OpMultiply, divide(num(1), num(0), 0), at("i.a")), api.ErrDivide), fails(divide(text("a"), divide(num(1), num(0), 0), 0), api.ErrDivide),
	})
}

func TestP16_3Sums(t *testing.T) {
	expectEval(t, []evaluating{
		gives(sum("l[*].p", 1), value.Decimal(40, 1)), gives(sum("l[*].p", 3), value.Decimal(4000, 3)), gives(sum("l[*].n", 0), value.Int(4)), gives(sum("l[*].n", 2), value.Decimal(400, 2)), gives(sum("l[*].k[*]", 0), value.Int(3)), gives(sum("l[*].k[1]", 0), value.Int(2)), gives(sum("m[*]", 1), value.Decimal(15, 1)), gives(sum("zz[*]", 1), value.Decimal(0, 1)), gives(sum("e[*].a", 0), value.Int(0)), gives(sum("e[*]", 12), value.Decimal(0, 12)), gives(sum("l[0].k[*]", 0), value.Int(3)), gives(sum("l[9].k[*]", 0), value.Int(0)),
		fails(sum("l[*].p", 0), api.ErrType), fails(sum("m[*]", 0), api.ErrType), fails(sum("l[*]", 2), api.ErrType), fails(sum("l[*].k", 2), api.ErrType), fails(sum("i[*]", 2), api.ErrPath), fails(sum("l[*].p[*]", 2), api.ErrPath), fails(sum("l[*].p.q", 2), api.ErrPath),
	})
	many := func(n int, v V) V {
		l := V{Kind: api.List, List: slices.Repeat([]V{v}, n)}
		return value.Record(field("l", value.List(l, l)), field("one", l))
	}
	for _, c := range []struct {
		n     int
		v     V
		scale int
		s     string
		want  V
		x     api.Errno
	}{
		{256, value.Int(2), 0, "one[*]", value.Int(512), api.OK}, {128, value.Int(2), 0, "l[*][*]", value.Int(512), api.OK}, {129, value.Int(2), 0, "l[*][*]", V{}, api.ErrLimit}, {129, value.Text("a"), 0, "l[*][*]", V{}, api.ErrType}, {129, value.Int(most), 0, "l[*][*]", V{}, api.ErrLimit}, {2, value.Int(most), 0, "one[*]", V{}, api.ErrOverflow}, {1, value.Int(most), 0, "one[*]", value.Int(most), api.OK}, {1, value.Int(most), 1, "one[*]", V{}, api.ErrOverflow}, {1, value.Int(most / 10), 1, "one[*]", value.Decimal(most/10*10, 1), api.OK}, {2, value.Decimal(5, 2), 12, "one[*]", value.Decimal(100000000000, 12), api.OK}, {1, value.Decimal(0, 0), 0, "one[*]", V{}, api.ErrType}, {1, value.Decimal(1, 3), 2, "one[*]", V{}, api.ErrType}, {1, value.Decimal(7, 0), 2, "one[*]", value.Decimal(700, 2), api.OK}, {0, value.Int(1), 0, "one[*]", value.Int(0), api.OK},
	} {
		if v, x := expr.Eval(sum(c.s, c.scale), many(c.n, c.v)); !value.Equal(v, c.want) || x != c.x {
			t.Errorf("the sum of %d * %v: %v, %d, want %v, %d", c.n, c.v, v, x, c.want, c.x)
		}
	}
}

func TestP16_3Texts(t *testing.T) {
	slice := func(s string, from, to int) E { return op(api.OpSlice, text(s), num(from), num(to)) }
	half := strings.Repeat("x", 512)
	expectEval(t, []evaluating{
		gives(op(api.OpConcat, text("ab"), text("c")), value.Text("abc")), gives(op(api.OpConcat, text(half), text(half)), value.Text(half+half)), fails(op(api.OpConcat, text(half), text(half+"x")), api.ErrLong), fails(op(api.OpConcat, text("a"), num(1)), api.ErrType), fails(op(api.OpConcat, lit(value.Bytes("a")), lit(value.Bytes("a"))), api.ErrType), fails(op(api.OpConcat, text(""), at("zz")), api.ErrAbsent), gives(op(api.OpConcat, text(""), text("")), value.Text("")), fails(op(api.OpConcat, lit(value.Bytes(half)), text(half+"x")), api.ErrType),
		gives(op(api.OpLength, at("t")), value.Int(3)), gives(op(api.OpLength, at("x")), value.Int(2)), gives(op(api.OpLength, at("l")), value.Int(2)), gives(op(api.OpLength, at("e")), value.Int(0)), gives(op(api.OpLength, text("")), value.Int(0)), fails(op(api.OpLength, num(1)), api.ErrType), fails(op(api.OpLength, at("r")), api.ErrType), fails(op(api.OpLength, at("v")), api.ErrType), fails(op(api.OpLength, lit(value.Date(1))), api.ErrType), fails(op(api.OpLength, at("zz")), api.ErrAbsent),
		gives(op(api.OpLower, text("AÉz")), value.Text("aÉz")), gives(op(api.OpUpper, text("aéZ1")), value.Text("AéZ1")), fails(op(api.OpLower, lit(value.Bytes("A"))), api.ErrType), fails(op(api.OpUpper, num(1)), api.ErrType), fails(op(api.OpUpper, at("zz")), api.ErrAbsent),
		gives(slice("abc", 1, 9), value.Text("bc")), gives(slice("abc", 0, 0), value.Text("")), gives(slice("abc", 0, 3), value.Text("abc")), gives(slice("éab", 1, 2), value.Text("a")), gives(slice("éab", 0, 1), value.Text("é")), gives(slice("a€\U0010FFFFb", 1, 3), value.Text("€\U0010FFFF")), gives(slice("abc", 3, 3), value.Text("")), gives(slice("abc", 5, most), value.Text("")), gives(slice("", 0, 1), value.Text("")), gives(slice("abc", 2, most), value.Text("c")), fails(slice("abc", 2, 1), api.ErrRange), fails(slice("abc", -1, 1), api.ErrRange), fails(slice("abc", -2, -1), api.ErrRange), fails(slice("abc", 9, 8), api.ErrRange), fails(slice("abc", -most, most), api.ErrRange), fails(op(api.OpSlice, num(1), num(2), num(1)), api.ErrType), fails(op(api.OpSlice, text("a"), dec(0, 0), num(1)), api.ErrType), fails(op(api.OpSlice, text("a"), num(2), dec(1, 0)), api.ErrType), fails(op(api.OpSlice, lit(value.Bytes("a")), num(0), num(1)), api.ErrType), fails(op(api.OpSlice, text("a"), num(2), at("zz")), api.ErrAbsent), fails(op(api.OpSlice, num(1), at("zz"), at("i.a")), api.ErrAbsent),
		gives(op(api.OpText, at("d")), value.Text("2.50")), gives(op(api.OpText, dec(5, 0)), value.Text("5")), gives(op(api.OpText, num(-12)), value.Text("-12")), gives(op(api.OpText, yes), value.Text("true")), gives(op(api.OpText, no), value.Text("false")), gives(op(api.OpText, at("day")), value.Text("2000-02-29")), gives(op(api.OpText, at("at")), value.Text("2000-02-29T00:00:00Z")), gives(op(api.OpText, lit(value.Time(1))), value.Text("1970-01-01T00:00:00.001Z")), gives(op(api.OpText, text("a\n")), value.Text("a\n")), fails(op(api.OpText, at("x")), api.ErrType), fails(op(api.OpText, at("l")), api.ErrType), fails(op(api.OpText, at("r")), api.ErrType), fails(op(api.OpText, at("v")), api.ErrType), fails(op(api.OpText, at("zz")), api.ErrAbsent),
		gives(op(api.OpNumber, text("-12")), value.Int(-12)), gives(op(api.OpNumber, text("0")), value.Int(0)), gives(op(api.OpNumber, text("999999999999999")), value.Int(most)), fails(op(api.OpNumber, text("1.0")), api.ErrSyntax), fails(op(api.OpNumber, text("")), api.ErrSyntax), fails(op(api.OpNumber, text("00")), api.ErrSyntax), fails(op(api.OpNumber, text("1000000000000000")), api.ErrSyntax), fails(op(api.OpNumber, text("1000000000000000000000")), api.ErrSyntax), fails(op(api.OpNumber, text(" 1")), api.ErrSyntax), fails(op(api.OpNumber, text("1d")), api.ErrSyntax), fails(op(api.OpNumber, num(1)), api.ErrType), fails(op(api.OpNumber, lit(value.Bytes("1"))), api.ErrType), fails(op(api.OpNumber, at("zz")), api.ErrAbsent),
	})
}

func TestP16_3Errors(t *testing.T) {
	for _, v := range []V{{}, value.Int(1), value.List(), value.Variant("a", value.Int(1)), {Kind: -1}} {
		for e, want := range map[*E]api.Errno{{Op: 29}: api.ErrKind, {Op: api.OpNot}: api.ErrShort, {Op: api.OpValue, Value: []V{value.Int(1)}}: api.ErrKind, {Op: api.OpPath, Text: "a"}: api.ErrKind} {
			if x, failure := expr.Eval(*e, v); !value.IsNull(x) || failure != want {
				t.Errorf("Eval(%v, %v) = %v, %d, want %d", *e, v, x, failure, want)
			}
			if is, failure := expr.Condition(*e, v); is || failure != want {
				t.Errorf("Condition(%v, %v) = %v, %d, want %d", *e, v, is, failure, want)
			}
		}
	}
	if v, x := expr.Eval(op(api.OpAnd, no, op(0)), large()); !value.IsNull(v) || x != api.ErrKind {
		t.Error("an error of the structure comes before the evaluation")
	}
}

func TestP16_4Condition(t *testing.T) {
	for i, c := range []struct {
		e    E
		want bool
		x    api.Errno
	}{
		{op(api.OpGreater, at("i"), num(2)), true, api.OK}, {op(api.OpGreater, at("i"), num(3)), false, api.OK}, {at("b"), true, api.OK}, {no, false, api.OK}, {at("zz"), false, api.ErrAbsent}, {op(api.OpElse, at("zz"), at("zz")), false, api.ErrAbsent}, {at("i"), false, api.ErrType}, {num(1), false, api.ErrType}, {at("l"), false, api.ErrType}, {text("true"), false, api.ErrType}, {at("i.a"), false, api.ErrPath}, {op(api.OpNot, at("zz")), false, api.ErrAbsent}, {op(api.OpNot), false, api.ErrShort}, {divide(num(1), num(0), 0), false, api.ErrDivide},
	} {
		if got, x := expr.Condition(c.e, large()); got != c.want || x != c.x {
			t.Errorf("%d: Condition(%v) = %v, %d, want %v, %d", i, c.e, got, x, c.want, c.x)
		}
	}
}

func TestP16_5Paths(t *testing.T) {
	for _, c := range []struct {
		e E
		l []string
	}{
		{num(1), nil}, {at("b"), []string{"b"}}, {has("a.c"), []string{"a.c"}}, {sum("a[*]", 0), []string{"a[*]"}},
		{op(api.OpIf, at("b"), op(api.OpElse, at("a.b"), at("a")), op(api.OpIn, has("b"), sum("l[*]", 3), at("a"), at("a[0]"), at("aa"))), []string{"a", "a.b", "a[0]", "aa", "b", "l[*]"}},
		{op(api.OpAnd, no, at("a")), []string{"a"}}, {op(api.OpAnd, at("a")), nil}, {op(api.OpAnd, at("a"), at("B")), nil}, {at("a[*]"), nil}, {nested(8, at("a")), nil}, {E{}, nil}, {text("a"), nil},
	} {
		if l := expr.Paths(c.e); !slices.Equal(l, c.l) {
			t.Errorf("Paths(%v) = %v, want %v", c.e, l, c.l)
		}
	}
}

func TestP16_6Equal(t *testing.T) {
	make := func() E {
		return E{Op: 77, Int: 5, Text: "a", Value: []V{value.List(value.Int(1)), {}}, Args: []E{num(1), op(api.OpIn, at("a"), text("b"))}}
	}
	e := make()
	if !expr.Equal(e, make()) || !expr.Equal(E{}, E{Value: []V{}, Args: []E{}}) || !expr.Equal(op(api.OpNot, E{Args: []E{}}), op(api.OpNot, E{})) {
		t.Error("equal expressions")
	}
	changes := []func(e *E){func(e *E) { e.Op++ }, func(e *E) { e.Int++ }, func(e *E) { e.Text = "b" }, func(e *E) { e.Value[0].List[0].Int = 2 }, func(e *E) { e.Value[1].Int = 2 }, func(e *E) { e.Value = e.Value[:1] }, func(e *E) { e.Args = e.Args[:1] }, func(e *E) { e.Args[1].Op++ }, func(e *E) { e.Args[1].Args[0].Text = "b" }, func(e *E) { e.Args[1].Args[1].Value[0].Text = "c" }, func(e *E) { e.Args = append(e.Args, E{}) }, func(e *E) { e.Value = append(e.Value, V{}) }, func(e *E) { e.Args[0], e.Args[1] = e.Args[1], e.Args[0] }, func(e *E) { e.Value[0].List = nil }}
	for i, change := range changes {
		other := make()
		change(&other)
		if expr.Equal(e, other) || expr.Equal(other, e) || !expr.Equal(other, other) {
			t.Errorf("change %d", i)
		}
		c := expr.Clone(e)
		change(&c)
		if !expr.Equal(e, make()) || !expr.Equal(c, other) {
			t.Errorf("change %d of a copy", i)
		}
	}
}

func TestP16_6Size(t *testing.T) {
	for _, c := range []struct {
		e    E
		size int
	}{{E{}, 1}, {num(1), 1}, {op(99, op(98), op(97, op(96))), 4}, {wide(257, num(1)), 257}, {nested(100, at("a")), 101}, {E{Op: api.OpValue, Value: []V{{}, {}}, Args: []E{{}}}, 2}} {
		if n := expr.Size(c.e); n != c.size {
			t.Errorf("Size(%v) = %d", c.e, n)
		}
	}
	deep := nested(1<<16, at("a"))
	if expr.Size(deep) != 1<<16+1 || !expr.Equal(expr.Clone(deep), deep) {
		t.Error("a deep expression")
	}
}

func TestP16_3NewMemory(t *testing.T) {
	env := large()
	for _, e := range []E{at("l"), at("r"), op(api.OpElse, at("zz"), at("l")), op(api.OpIf, yes, at("l"), at("e"))} {
		v, _ := expr.Eval(e, env)
		for i := range v.List {
			v.List[i].Fields[0].Value = V{}
			v.List[i] = V{}
		}
		for i := range v.Fields {
			v.Fields[i] = api.Field{}
		}
		if !value.Equal(env, large()) {
			t.Fatalf("Eval(%v) shares memory with its environment", e)
		}
	}
	room := make([]V, 1)
	v, _ := expr.Eval(E{Op: api.OpValue, Value: []V{{Kind: api.Bool, List: room[:0]}}}, env)
	if _ = append(v.List, value.Int(1)); room[0].Kind != api.Null {
		t.Error("Eval shares memory with the expression")
	}
	kind := record(required("l", list(0, 2, words("a", "b"))), required("r", record(required("a", flag))))
	kept := schema.Clone(kind)
	for _, e := range []E{at("l"), at("r"), at("l[0]"), op(api.OpText, at("l[0]")), op(api.OpIf, yes, at("l"), at("l")), op(api.OpElse, at("l[0]"), at("l[0]"))} {
		r, x := expr.Infer(e, kind)
		if x != api.OK {
			t.Fatal(x)
		}
		for i := range r.Type.Words {
			r.Type.Words[i] = "x"
		}
		for i := range r.Type.Elem {
			r.Type.Elem[i].Words[0] = "x"
		}
		for i := range r.Type.Fields {
			r.Type.Fields[i] = F{}
		}
		if !schema.Equal(kind, kept) {
			t.Fatalf("Infer(%v) shares memory with its argument", e)
		}
	}
}
