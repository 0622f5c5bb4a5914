package expr_test

import (
	"strings"
	"testing"

	"manifold/api"
	"manifold/expr"
	"manifold/schema"
	"manifold/value"
)

// order is the type of an environment with all kinds of fields.
func order() T {
	price := amount(2, 0, 999)
	item := record(required("p", price), optional("n", number(1, 4)), required("k", list(1, 2, number(-3, 9))))
	cases := variant(required("card", number(0, 99)), required("cash", price))
	return record(required("b", flag), required("price", price), required("count", number(1, 5)), optional("note", texts(0, 10)), required("word", words("B", "a", "longer")), required("x", bounded(api.Bytes, 1, 3)), required("day", bounded(api.Date, 0, 5)), required("at", bounded(api.Time, 0, 5)),
		required("l", list(0, 3, price)), required("items", list(1, 4, item)), required("v", cases), required("one", variant(required("only", flag))), required("r", item), F{Name: "some", Need: api.Defaulted, Type: number(0, 7), Default: []V{value.Int(3)}}, required("none", list(0, 0, number(most, most))), required("many", list(0, 256, list(0, 2, number(0, 1)))), optional("o", flag), required("big", number(-most, most)), required("fine", amount(12, -most, most)))
}

type inferring struct {
	e    E
	want R
	x    api.Errno
}

func expectInfer(t *testing.T, l []inferring) {
	t.Helper()
	env := order()
	for i, c := range l {
		r, x := expr.Infer(c.e, env)
		if !schema.Equal(r.Type, c.want.Type) || r.Absent != c.want.Absent || r.Total != c.want.Total || x != c.x {
			t.Errorf("%d: Infer(%v) = %v, %d, want %v, %d", i, c.e, r, x, c.want, c.x)
		}
		if x == api.OK && schema.Check(r.Type) != api.OK {
			t.Errorf("%d: Infer(%v) = %v", i, c.e, r)
		}
	}
	if !schema.Equal(env, order()) {
		t.Error("the type was modified")
	}
}

func sure(e E, t T) inferring            { return inferring{e, R{Type: t, Total: true}, api.OK} }
func partial(e E, t T) inferring         { return inferring{e, R{Type: t}, api.OK} }
func lacking(e E, t T) inferring         { return inferring{e, R{Type: t, Absent: true, Total: true}, api.OK} }
func refuses(e E, x api.Errno) inferring { return inferring{e, R{}, x} }

func TestP16_2Values(t *testing.T) {
	expectInfer(t, []inferring{
		sure(yes, flag), sure(num(-3), number(-3, -3)), sure(dec(150, 2), amount(2, 150, 150)), sure(dec(0, 0), amount(0, 0, 0)), sure(text("a"), words("a")), sure(text(""), words("")), sure(lit(value.Bytes("\xFF\x00")), bounded(api.Bytes, 2, 2)), sure(lit(value.Bytes("")), bounded(api.Bytes, 0, 0)), sure(lit(value.Date(-5)), bounded(api.Date, -5, -5)), sure(lit(value.Time(77)), bounded(api.Time, 77, 77)),
		sure(at("count"), number(1, 5)), lacking(at("note"), texts(0, 10)), sure(at("some"), number(0, 7)), sure(at("items[0].p"), amount(2, 0, 999)), lacking(at("items[1].p"), amount(2, 0, 999)), lacking(at("items[0].n"), number(1, 4)), sure(at("r.k[0]"), number(-3, 9)), lacking(at("v?card"), number(0, 99)), sure(at("one?only"), flag), lacking(at("l[0]"), amount(2, 0, 999)), sure(at("l"), list(0, 3, amount(2, 0, 999))),
		refuses(at("zz"), api.ErrPath), refuses(at("count.a"), api.ErrPath), refuses(at("l[3]"), api.ErrPath), refuses(at("v?zz"), api.ErrPath), refuses(at("none[0]"), api.ErrPath),
		sure(has("note"), flag), sure(has("count"), flag), sure(has("v?cash"), flag), refuses(has("zz"), api.ErrPath), refuses(has("l[3]"), api.ErrPath),
	})
}

func TestP16_2Judgements(t *testing.T) {
	rows := []inferring{
		sure(op(api.OpNot, at("b")), flag), refuses(op(api.OpNot, at("count")), api.ErrType), partial(op(api.OpNot, at("o")), flag), sure(op(api.OpAnd, at("b"), yes), flag), refuses(op(api.OpAnd, at("b"), num(1)), api.ErrType), refuses(op(api.OpOr, num(1), at("b")), api.ErrType), partial(op(api.OpOr, at("o"), no), flag), partial(op(api.OpOr, yes, at("o")), flag), sure(op(api.OpOr, at("b"), no), flag),
		sure(op(api.OpIn, at("count"), at("price"), num(3)), flag), refuses(op(api.OpIn, at("count"), num(1), text("a")), api.ErrType), refuses(op(api.OpIn, at("count"), text("a"), num(1)), api.ErrType), partial(op(api.OpIn, at("note"), text("a"), text("b")), flag), partial(op(api.OpIn, text("a"), text("b"), at("note")), flag), sure(op(api.OpIn, at("r"), at("r"), at("items[0]")), flag), sure(op(api.OpIn, text("a"), text("b"), at("word")), flag),
	}
	for _, n := range []int{api.OpEqual, api.OpUnequal} {
		rows = append(rows, sure(op(n, at("count"), at("price")), flag), sure(op(n, at("word"), text("c")), flag), sure(op(n, at("x"), at("x")), flag), sure(op(n, at("l"), at("l")), flag), refuses(op(n, at("l"), at("many")), api.ErrType), refuses(op(n, at("l"), at("r")), api.ErrType), sure(op(n, at("v"), at("v")), flag), refuses(op(n, at("v"), at("one")), api.ErrType), sure(op(n, at("r"), at("items[0]")), flag), refuses(op(n, at("day"), at("at")), api.ErrType), refuses(op(n, at("x"), at("word")), api.ErrType), refuses(op(n, at("b"), num(1)), api.ErrType), partial(op(n, at("note"), at("note")), flag), refuses(op(n, num(1), at("r")), api.ErrType))
	}
	for _, n := range []int{api.OpLess, api.OpAtMost, api.OpGreater, api.OpAtLeast} {
		rows = append(rows, sure(op(n, at("count"), at("price")), flag), sure(op(n, at("word"), text("c")), flag), sure(op(n, at("b"), no), flag), sure(op(n, at("day"), at("day")), flag), sure(op(n, at("at"), at("at")), flag), refuses(op(n, at("x"), at("x")), api.ErrType), refuses(op(n, at("l"), at("l")), api.ErrType), refuses(op(n, at("r"), at("r")), api.ErrType), refuses(op(n, at("v"), at("v")), api.ErrType), refuses(op(n, at("day"), at("at")), api.ErrType), refuses(op(n, at("word"), num(1)), api.ErrType), partial(op(n, at("note"), text("a")), flag), partial(op(n, text("a"), at("note")), flag), refuses(op(n, at("day"), num(1)), api.ErrType))
	}
	expectInfer(t, rows)
}

func TestP16_2Sums(t *testing.T) {
	expectInfer(t, []inferring{
		sure(op(api.OpAdd, at("price"), at("count")), amount(2, 100, 1499)), sure(op(api.OpAdd, at("count"), at("count")), number(2, 10)), sure(op(api.OpAdd, at("count"), dec(1, 0)), amount(0, 2, 6)), partial(op(api.OpAdd, at("count"), num(most)), number(most, most)), partial(op(api.OpAdd, num(-most), num(-1)), number(-most, -most)), sure(op(api.OpAdd, num(most), num(-1)), number(most-1, most-1)), partial(op(api.OpAdd, at("big"), num(1)), number(1-most, most)), partial(op(api.OpAdd, at("big"), dec(0, 1)), amount(1, -most, most)), partial(op(api.OpAdd, num(1000), dec(1, 12)), amount(12, most, most)), sure(op(api.OpAdd, num(999), dec(1, 12)), amount(12, 999000000000001, 999000000000001)), sure(op(api.OpAdd, num(1000), dec(-1, 12)), amount(12, most, most)), partial(op(api.OpAdd, num(most), at("fine")), amount(12, most, most)), partial(op(api.OpAdd, at("fine"), num(-most)), amount(12, -most, -most)), partial(op(api.OpAdd, at("big"), at("fine")), amount(12, -most, most)),
		sure(op(api.OpSubtract, at("count"), num(1)), number(0, 4)), sure(op(api.OpSubtract, num(1), at("count")), number(-4, 0)), sure(op(api.OpSubtract, at("price"), at("count")), amount(2, -500, 899)), partial(op(api.OpSubtract, at("big"), num(1)), number(-most, most-1)), sure(op(api.OpSubtract, num(0), at("fine")), amount(12, -most, most)), sure(op(api.OpSubtract, num(0), at("big")), number(-most, most)), partial(op(api.OpSubtract, at("fine"), num(2000)), amount(12, -most, -most)),
		sure(op(api.OpNegate, at("count")), number(-5, -1)), sure(op(api.OpNegate, at("price")), amount(2, -999, 0)), sure(op(api.OpNegate, at("big")), number(-most, most)), refuses(op(api.OpNegate, at("day")), api.ErrType), refuses(op(api.OpNegate, at("word")), api.ErrType), refuses(op(api.OpAdd, at("word"), num(1)), api.ErrType), refuses(op(api.OpSubtract, num(1), at("day")), api.ErrType), refuses(op(api.OpAdd, at("b"), at("b")), api.ErrType),
		sure(sum("l[*]", 2), amount(2, 0, 2997)), sure(sum("l[*]", 4), amount(4, 0, 299700)), refuses(sum("l[*]", 1), api.ErrType), refuses(sum("l[*]", 0), api.ErrType), sure(sum("items[*].n", 0), number(0, 16)), sure(sum("items[*].n", 3), amount(3, 0, 16000)), sure(sum("items[*].k[*]", 0), number(-24, 72)), sure(sum("items[2].k[*]", 0), number(-6, 18)), sure(sum("items[*].k[1]", 0), number(-12, 36)), refuses(sum("items[*].k[2]", 0), api.ErrPath), sure(sum("none[*]", 0), number(0, 0)), sure(sum("none[*]", 12), amount(12, 0, 0)), partial(sum("many[*][*]", 0), number(0, 512)), sure(sum("many[*][0]", 0), number(0, 256)), refuses(sum("many[*]", 0), api.ErrType), refuses(sum("items[*]", 2), api.ErrType), refuses(sum("zz[*]", 2), api.ErrPath), refuses(sum("count[*]", 2), api.ErrPath), refuses(sum("l[*].a", 2), api.ErrPath),
	})
	low, high := number(2, most), number(-most, -2)
	deep := number(1, 1)
	for range 6 {
		deep = list(0, 256, deep)
	}
	for i, c := range []struct {
		t, want T
		s       string
		scale   int
		total   bool
	}{
		{list(0, 256, low), number(0, most), "l[*]", 0, false}, {list(0, 1, low), number(0, most), "l[*]", 0, true}, {list(0, 256, high), number(-most, 0), "l[*]", 0, false}, {list(5, 5, number(3, 4)), number(0, 20), "l[*]", 0, true}, {list(1, 256, amount(0, -most, most)), amount(12, -most, most), "l[*]", 12, false}, {list(0, 256, number(3, 3)), amount(12, 0, 768000000000000), "l[*]", 12, true}, {list(0, 256, number(-4, -3)), amount(12, -most, 0), "l[*]", 12, false}, {deep, number(0, 1<<48), "l" + strings.Repeat("[*]", 6), 0, false}, {list(0, 256, list(0, 0, low)), number(0, 0), "l[*][*]", 0, true}, {list(0, 0, list(0, 256, low)), amount(12, 0, 0), "l[*][*]", 12, true}, {list(0, 255, list(0, 1, number(1, 1))), number(0, 255), "l[*][*]", 0, true}, {list(0, 256, list(0, 1, number(0, 0))), number(0, 0), "l[*][*]", 0, true}, {list(0, 129, list(0, 2, number(0, 0))), number(0, 0), "l[*][*]", 0, false},
	} {
		r, x := expr.Infer(sum(c.s, c.scale), record(required("l", c.t)))
		if x != api.OK || !schema.Equal(r.Type, c.want) || r.Total != c.total || r.Absent {
			t.Errorf("%d: %v, %d, want %v, %v", i, r, x, c.want, c.total)
		}
	}
}

func TestP16_2Products(t *testing.T) {
	expectInfer(t, []inferring{
		sure(op(api.OpMultiply, at("price"), at("count")), amount(2, 0, 4995)), sure(op(api.OpMultiply, num(-2), at("count")), number(-10, -2)), sure(op(api.OpMultiply, op(api.OpSubtract, at("count"), num(3)), op(api.OpSubtract, at("count"), num(2))), number(-6, 6)), sure(op(api.OpMultiply, at("count"), dec(5, 0)), amount(0, 5, 25)), sure(op(api.OpMultiply, dec(2, 6), dec(3, 6)), amount(12, 6, 6)), refuses(op(api.OpMultiply, dec(2, 6), dec(3, 7)), api.ErrOverflow), refuses(op(api.OpMultiply, at("fine"), at("price")), api.ErrOverflow), sure(op(api.OpMultiply, at("fine"), num(1)), amount(12, -most, most)), partial(op(api.OpMultiply, at("fine"), num(2)), amount(12, -most, most)), partial(op(api.OpMultiply, at("big"), at("big")), number(-most, most)), sure(op(api.OpMultiply, at("big"), num(0)), number(0, 0)), partial(op(api.OpMultiply, num(most), num(most)), number(most, most)), partial(op(api.OpMultiply, num(-most), num(most)), number(-most, -most)), refuses(op(api.OpMultiply, at("word"), at("fine")), api.ErrType), refuses(op(api.OpMultiply, at("fine"), at("day")), api.ErrType), sure(op(api.OpMultiply, num(-3), num(-4)), number(12, 12)),
		sure(divide(num(1), at("count"), 2), amount(2, -100, 100)), partial(divide(num(1), op(api.OpSubtract, at("count"), num(3)), 0), amount(0, -1, 1)), sure(divide(num(1), op(api.OpSubtract, at("count"), num(6)), 0), amount(0, -1, 1)), partial(divide(num(1), op(api.OpSubtract, at("count"), num(5)), 0), amount(0, -1, 1)), partial(divide(num(1), op(api.OpSubtract, at("count"), num(1)), 0), amount(0, -1, 1)), partial(divide(at("count"), at("price"), 1), amount(1, -5000, 5000)), sure(divide(at("price"), at("count"), 0), amount(0, -999, 999)), sure(divide(at("price"), dec(5, 1), 1), amount(1, -999, 999)), sure(divide(at("price"), dec(5, 1), 2), amount(2, -9990, 9990)), sure(divide(num(-7), num(1), 0), amount(0, -7, 7)), partial(divide(num(most), num(2), 1), amount(1, -most, most)), partial(divide(num(1), dec(1, 12), 12), amount(12, -most, most)), sure(divide(num(0), dec(1, 12), 12), amount(12, 0, 0)), partial(divide(num(0), num(0), 12), amount(12, 0, 0)), sure(divide(num(1), dec(1, 12), 2), amount(2, -100000000000000, 100000000000000)), partial(divide(num(1), dec(1, 12), 3), amount(3, -most, most)), sure(divide(num(most), num(1), 0), amount(0, -most, most)), refuses(divide(text("a"), num(1), 0), api.ErrType), refuses(divide(num(1), at("at"), 0), api.ErrType), partial(divide(num(1), at("big"), 0), amount(0, -1, 1)), sure(divide(op(api.OpSubtract, at("count"), num(8)), num(1), 0), amount(0, -7, 7)),
	})
}

func TestP16_2Texts(t *testing.T) {
	slice := func(a, b, c E) E { return op(api.OpSlice, a, b, c) }
	long := text(strings.Repeat("x", 1000))
	expectInfer(t, []inferring{
		sure(op(api.OpConcat, text("abc"), text("de")), texts(5, 5)), partial(op(api.OpConcat, at("note"), text("a")), texts(1, 11)), sure(op(api.OpConcat, at("word"), at("word")), texts(2, 12)), sure(op(api.OpConcat, text(""), text("")), texts(0, 0)), partial(op(api.OpConcat, long, long), texts(1024, 1024)), sure(op(api.OpConcat, long, text(strings.Repeat("x", 24))), texts(1024, 1024)), partial(op(api.OpConcat, long, text(strings.Repeat("x", 25))), texts(1024, 1024)), refuses(op(api.OpConcat, text("a"), num(1)), api.ErrType), refuses(op(api.OpConcat, at("x"), text("a")), api.ErrType), sure(op(api.OpConcat, op(api.OpIf, at("b"), long, text("a")), op(api.OpIf, at("b"), text("bb"), text("ccc"))), texts(3, 1003)),
		partial(op(api.OpLength, at("note")), number(0, 10)), sure(op(api.OpLength, at("word")), number(1, 6)), sure(op(api.OpLength, at("l")), number(0, 3)), sure(op(api.OpLength, at("items")), number(1, 4)), sure(op(api.OpLength, at("x")), number(1, 3)), sure(op(api.OpLength, text("é")), number(2, 2)), refuses(op(api.OpLength, at("count")), api.ErrType), refuses(op(api.OpLength, at("r")), api.ErrType), refuses(op(api.OpLength, at("v")), api.ErrType), refuses(op(api.OpLength, at("day")), api.ErrType),
		sure(op(api.OpLower, at("word")), words("a", "b", "longer")), sure(op(api.OpUpper, at("word")), words("A", "B", "LONGER")), sure(op(api.OpLower, op(api.OpIf, at("b"), text("B"), text("b"))), words("b")), partial(op(api.OpUpper, at("note")), texts(0, 10)), refuses(op(api.OpLower, at("x")), api.ErrType), refuses(op(api.OpUpper, num(1)), api.ErrType), sure(op(api.OpUpper, text("é")), words("é")),
		sure(slice(text("abcdefghij"), num(1), num(2)), texts(0, 4)), sure(slice(text("abc"), num(1), num(2)), texts(0, 3)), partial(slice(text("abcdefghij"), num(-1), num(1)), texts(0, 4)), partial(slice(text("abc"), num(2), num(1)), texts(0, 0)), sure(slice(text("abc"), num(0), num(0)), texts(0, 0)), sure(slice(at("word"), at("count"), num(5)), texts(0, 6)), partial(slice(at("word"), at("count"), num(4)), texts(0, 6)), partial(slice(at("word"), num(0), op(api.OpSubtract, at("count"), num(4))), texts(0, 4)), sure(slice(at("word"), num(1), at("count")), texts(0, 6)), partial(slice(at("word"), num(2), at("count")), texts(0, 6)), partial(slice(at("note"), num(0), num(1)), texts(0, 4)), partial(slice(at("word"), at("big"), at("big")), texts(0, 6)), partial(slice(at("word"), num(most), num(-most)), texts(0, 0)), refuses(slice(at("x"), num(0), num(1)), api.ErrType), refuses(slice(text("a"), dec(0, 0), num(1)), api.ErrType), refuses(slice(text("a"), num(0), dec(1, 0)), api.ErrType), refuses(slice(text("a"), num(0), text("a")), api.ErrType), partial(slice(text("abc"), op(api.OpSubtract, at("count"), num(6)), num(1)), texts(0, 3)),
		sure(op(api.OpText, at("price")), texts(1, 17)), sure(op(api.OpText, at("count")), texts(1, 17)), sure(op(api.OpText, at("b")), words("false", "true")), sure(op(api.OpText, at("day")), texts(10, 10)), sure(op(api.OpText, at("at")), texts(20, 24)), sure(op(api.OpText, at("word")), words("B", "a", "longer")), partial(op(api.OpText, at("note")), texts(0, 10)), refuses(op(api.OpText, at("x")), api.ErrType), refuses(op(api.OpText, at("l")), api.ErrType), refuses(op(api.OpText, at("r")), api.ErrType), refuses(op(api.OpText, at("v")), api.ErrType),
		partial(op(api.OpNumber, text("1")), number(-most, most)), partial(op(api.OpNumber, at("note")), number(-most, most)), refuses(op(api.OpNumber, num(1)), api.ErrType), refuses(op(api.OpNumber, at("x")), api.ErrType),
	})
}

func TestP16_2Choices(t *testing.T) {
	expectInfer(t, []inferring{
		sure(op(api.OpElse, at("note"), text("")), texts(0, 10)), lacking(op(api.OpElse, at("note"), at("note")), texts(0, 10)), lacking(op(api.OpElse, at("word"), at("note")), texts(0, 10)), sure(op(api.OpElse, at("count"), num(9)), number(1, 9)), refuses(op(api.OpElse, at("note"), num(1)), api.ErrType), refuses(op(api.OpElse, at("count"), dec(1, 0)), api.ErrType), refuses(op(api.OpElse, at("price"), dec(1, 1)), api.ErrType), sure(op(api.OpElse, op(api.OpElse, at("note"), at("note")), text("12345678901")), texts(0, 11)), partial(op(api.OpElse, at("price"), divide(num(1), num(0), 2)), amount(2, -100, 999)), partial(op(api.OpElse, num(1), op(api.OpNumber, text("a"))), number(-most, most)), sure(op(api.OpElse, at("r"), at("items[0]")), order().Fields[12].Type), refuses(op(api.OpElse, at("r"), at("v")), api.ErrType),
		sure(op(api.OpIf, op(api.OpGreater, at("count"), num(2)), text("B"), text("a")), words("B", "a")), lacking(op(api.OpIf, at("b"), at("note"), text("a")), texts(0, 10)), lacking(op(api.OpIf, at("b"), text("a"), at("note")), texts(0, 10)), partial(op(api.OpIf, at("o"), num(1), num(2)), number(1, 2)), refuses(op(api.OpIf, at("count"), num(1), num(2)), api.ErrType), refuses(op(api.OpIf, at("b"), num(1), text("a")), api.ErrType), refuses(op(api.OpIf, num(1), num(1), text("a")), api.ErrType), partial(op(api.OpIf, yes, num(1), op(api.OpNumber, text("2"))), number(-most, most)), {op(api.OpIf, at("o"), at("note"), at("note")), R{Type: texts(0, 10), Absent: true}, api.OK}, partial(op(api.OpLength, op(api.OpIf, at("b"), at("note"), text("a"))), number(0, 10)), sure(op(api.OpLength, op(api.OpElse, at("note"), text("a"))), number(0, 10)), partial(op(api.OpNot, op(api.OpElse, at("o"), at("o"))), flag), sure(op(api.OpIf, at("b"), at("l"), at("l")), list(0, 3, amount(2, 0, 999))), {op(api.OpElse, op(api.OpLower, at("note")), at("note")), R{Type: texts(0, 10), Absent: true}, api.OK},
	})
}

func TestP16_2Errors(t *testing.T) {
	wrong := T{Kind: api.Record, Min: 1}
	for i, c := range []struct {
		e   E
		env T
		x   api.Errno
	}{
		{op(29), wrong, api.ErrKind}, {op(api.OpNot), wrong, api.ErrShort}, {num(1), wrong, api.ErrFormat}, {num(1), T{}, api.ErrKind}, {num(1), T{Kind: 11}, api.ErrKind}, {num(1), T{Kind: api.List}, api.ErrShort}, {num(1), flag, api.ErrKind}, {num(1), list(0, 1, flag), api.ErrKind}, {at("a"), variant(required("a", flag)), api.ErrKind}, {at("a"), record(required("A", flag)), api.ErrName}, {num(1), record(), api.OK}, {at("a"), record(), api.ErrPath},
		{op(api.OpAnd, at("zz"), num(1)), order(), api.ErrPath}, {op(api.OpAnd, num(1), at("zz")), order(), api.ErrPath}, {op(api.OpAnd, op(api.OpNot, num(1)), at("zz")), order(), api.ErrType}, {op(api.OpAnd, op(api.OpMultiply, at("fine"), at("price")), op(api.OpNot, num(1))), order(), api.ErrOverflow}, {op(api.OpAnd, op(api.OpNot, num(1)), op(api.OpMultiply, at("fine"), at("price"))), order(), api.ErrType}, {op(api.OpElse, num(1), op(api.OpNot, at("zz"))), order(), api.ErrPath}, {op(api.OpOr, yes, at("zz")), order(), api.ErrPath},
	} {
		r, x := expr.Infer(c.e, c.env)
		if x != c.x || x != api.OK && (!schema.Equal(r.Type, T{}) || r.Absent || r.Total) {
			t.Errorf("%d: Infer(%v) = %v, %d, want %d", i, c.e, r, x, c.x)
		}
	}
}
