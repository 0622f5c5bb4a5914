package schema_test

import (
	"strings"
	"testing"

	"manifold/api"
	"manifold/schema"
	"manifold/value"
)

func at(name string, v V) api.Field { return api.Field{Name: name, Value: v} }

// raw returns the record of some fields as they are.
func raw(l ...api.Field) V { return V{Kind: api.Record, Fields: l} }

// example is a record with a number from 1 to 9, an optional list of up to three texts, a word with a default, and a variant.
func example() T {
	return record(required(1, "n", digit), optional(3, "l", list(1, 3, short)), defaulted(2, "w", words, value.Text("silver")), required(7, "c", variant(required(1, "cash", flag), required(2, "card", record(optional(1, "holder", short))))))
}

func TestP6_3Accepts(t *testing.T) {
	text, one := value.Text, value.Int(1)
	cash := at("c", value.Variant("cash", value.Bool(true)))
	gold, n := at("w", text("gold")), at("n", one)
	for i, c := range []struct {
		t  T
		v  V
		is bool
	}{
		{flag, value.Bool(false), true}, {flag, value.Bool(true), true}, {flag, V{Kind: api.Bool, Int: 2}, false}, {flag, one, false}, {flag, V{}, false},
		{digit, one, true}, {digit, value.Int(9), true}, {digit, value.Int(0), false}, {digit, value.Int(10), false}, {digit, V{Kind: api.Int, Int: 1, Scale: 1}, false}, {digit, value.Date(1), false}, {digit, value.Decimal(1, 0), false},
		{T{Kind: api.Date, Min: -1, Max: 1}, value.Date(-1), true}, {T{Kind: api.Date, Min: -1, Max: 1}, value.Date(2), false}, {T{Kind: api.Date, Min: -1, Max: 1}, value.Date(-2), false}, {T{Kind: api.Time, Min: -1, Max: 1}, value.Time(1), true}, {T{Kind: api.Time, Min: -1, Max: 1}, value.Time(-2), false}, {T{Kind: api.Time, Min: -1, Max: 1}, value.Time(2), false},
		{amount, value.Decimal(-100, 2), true}, {amount, value.Decimal(100, 2), true}, {amount, value.Decimal(101, 2), false}, {amount, value.Decimal(-101, 2), false}, {amount, value.Decimal(10, 1), false}, {amount, value.Decimal(1000, 3), false},
		{short, text("a"), true}, {short, text("aaaaa"), true}, {short, text(""), false}, {short, text("aaaaaa"), false}, {short, text("\xC3\xA9\xC3\xA9"), true}, {short, text("\xC3\xA9\xC3\xA9\xC3\xA9"), false}, {short, text("\xFF"), false}, {short, value.Bytes("a"), false},
		{words, text("gold"), true}, {words, text("silver"), true}, {words, text(""), false}, {words, text("gol"), false}, {words, text("golden"), false}, {T{Kind: api.Text, Words: []string{""}}, text(""), true}, {T{Kind: api.Text}, text(""), true}, {T{Kind: api.Text}, text("a"), false},
		{T{Kind: api.Bytes, Min: 1, Max: 2}, value.Bytes("\xFF\x00"), true}, {T{Kind: api.Bytes, Min: 1, Max: 2}, value.Bytes(""), false}, {T{Kind: api.Bytes, Min: 1, Max: 2}, value.Bytes("abc"), false}, {T{Kind: api.Bytes, Min: 1, Max: 2}, text("a"), false},
		{list(1, 2, digit), value.List(one), true}, {list(1, 2, digit), value.List(one, one), true}, {list(1, 2, digit), value.List(), false}, {list(1, 2, digit), value.List(one, one, one), false}, {list(1, 2, digit), value.List(one, value.Int(0)), false}, {list(1, 2, digit), value.List(value.Int(0), one), false}, {list(1, 2, digit), value.List(one, value.Bool(true)), false}, {list(0, 2, digit), value.List(), true}, {list(0, 2, digit), value.List(V{}), false},
		{example(), raw(cash, n, gold), true}, {example(), raw(cash, at("l", value.List(text("a"))), n, gold), true}, {example(), raw(cash, n), false}, {example(), raw(cash, gold), false}, {example(), raw(n, gold), false}, {example(), raw(), false}, {example(), raw(cash, n, gold, at("x", one)), false}, {example(), raw(at("a", one), cash, n, gold), false}, {example(), raw(cash, n, at("x", one)), false}, {example(), raw(gold, n, cash), false}, {example(), raw(cash, n, n, gold), false}, {example(), raw(cash, n, n), false},
		{example(), raw(cash, at("l", value.List()), n, gold), false}, {example(), raw(cash, at("l", V{}), n, gold), false}, {example(), raw(cash, at("n", value.Int(10)), gold), false}, {example(), raw(cash, n, at("w", text("bronze"))), false}, {record(), raw(), true}, {record(), raw(n), false}, {record(optional(1, "n", digit)), raw(), true}, {record(optional(1, "n", digit)), raw(at("n", value.Int(0))), false}, {example(), value.List(), false},
		{example().Fields[3].Type, value.Variant("cash", value.Bool(true)), true}, {example().Fields[3].Type, value.Variant("card", raw()), true}, {example().Fields[3].Type, value.Variant("card", raw(at("holder", text("x")))), true}, {example().Fields[3].Type, value.Variant("card", value.Bool(true)), false}, {example().Fields[3].Type, value.Variant("cash", raw()), false}, {example().Fields[3].Type, value.Variant("note", raw()), false}, {example().Fields[3].Type, V{Kind: api.Variant, Text: "cash"}, false}, {example().Fields[3].Type, V{Kind: api.Variant, Text: "cash", List: []V{value.Bool(true), value.Bool(true)}}, false}, {example().Fields[3].Type, value.Variant("card", raw(at("holder", text("")))), false},
		// A valid value has at most 4096 parts, and a type must be valid as a whole.
		{list(0, 256, list(0, 256, flag)), value.List(slicesOf(64, value.List(slicesOf(63, value.Bool(true))...))...), false}, {list(0, 256, list(0, 256, flag)), value.List(slicesOf(63, value.List(slicesOf(64, value.Bool(true))...))...), true}, {T{}, V{}, false}, {T{Kind: api.Int, Min: 9, Max: 1}, one, false}, {T{Kind: api.Int, Max: api.MaxNumber + 1}, one, false}, {record(optional(1, "n", digit), optional(1, "m", T{})), raw(), false}, {list(0, 1, T{Kind: api.List, Max: 1}), value.List(), false}, {list(0, 1, list(64, 64, list(64, 64, flag))), value.List(), false}, {variant(required(1, "a", flag), required(2, "b", T{})), value.Variant("a", value.Bool(true)), false},
	} {
		if is := schema.Accepts(c.t, c.v); is != c.is {
			t.Errorf("%d: Accepts(%v, %v) = %t", i, c.t, c.v, is)
		}
	}
}

func TestP6_3Least(t *testing.T) {
	for i, c := range []struct {
		t    T
		want V
		e    api.Errno
	}{
		{flag, value.Bool(false), api.OK}, {digit, value.Int(1), api.OK}, {T{Kind: api.Int, Min: -9, Max: -3}, value.Int(-3), api.OK}, {T{Kind: api.Int, Min: -9, Max: 9}, value.Int(0), api.OK}, {T{Kind: api.Int, Min: 0, Max: 9}, value.Int(0), api.OK}, {T{Kind: api.Int, Min: -9}, value.Int(0), api.OK},
		{amount, value.Decimal(0, 2), api.OK}, {T{Kind: api.Decimal, Min: 5, Max: 9, Scale: 12}, value.Decimal(5, 12), api.OK}, {T{Kind: api.Decimal, Min: -9, Max: -5}, value.Decimal(-5, 0), api.OK}, {T{Kind: api.Date, Min: 3, Max: 5}, value.Date(3), api.OK}, {T{Kind: api.Date, Min: -5, Max: -3}, value.Date(-3), api.OK}, {T{Kind: api.Time, Min: -5, Max: 5}, value.Time(0), api.OK}, {T{Kind: api.Time, Min: 3, Max: 3}, value.Time(3), api.OK},
		{short, value.Text("a"), api.OK}, {T{Kind: api.Text, Max: 9}, value.Text(""), api.OK}, {T{Kind: api.Text, Min: 1024, Max: 1024}, value.Text(strings.Repeat("a", 1024)), api.OK}, {words, value.Text("gold"), api.OK}, {T{Kind: api.Text, Words: []string{"", "a"}}, value.Text(""), api.OK}, {T{Kind: api.Bytes, Min: 3, Max: 9}, value.Bytes("\x00\x00\x00"), api.OK}, {T{Kind: api.Bytes, Max: 9}, value.Bytes(""), api.OK},
		{list(0, 9, digit), value.List(), api.OK}, {list(3, 9, digit), value.List(value.Int(1), value.Int(1), value.Int(1)), api.OK}, {list(1, 1, list(2, 2, flag)), value.List(value.List(value.Bool(false), value.Bool(false))), api.OK}, {record(), raw(), api.OK}, {record(optional(1, "a", flag)), raw(), api.OK},
		{example(), raw(at("c", value.Variant("cash", value.Bool(false))), at("n", value.Int(1)), at("w", value.Text("silver"))), api.OK}, {variant(required(2, "b", digit), required(1, "a", flag)), value.Variant("b", value.Int(1)), api.OK}, {record(required(1, "b", digit), defaulted(2, "a", digit, value.Int(7))), raw(at("a", value.Int(7)), at("b", value.Int(1))), api.OK},
		{T{}, V{}, api.ErrKind}, {list(2, 1, flag), V{}, api.ErrRange}, {variant(), V{}, api.ErrShort}, {list(64, 64, list(64, 64, flag)), V{}, api.ErrLimit}, {record(required(1, "a", flag), defaulted(2, "b", digit, value.Int(0))), V{}, api.ErrType},
	} {
		if v, e := schema.Least(c.t); !value.Equal(v, c.want) || e != c.e {
			t.Errorf("%d: Least(%v) = %v, %d, want %v, %d", i, c.t, v, e, c.want, c.e)
		}
	}
}
