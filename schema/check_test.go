package schema_test

import (
	"math"
	"strconv"
	"strings"
	"testing"

	"manifold/api"
	"manifold/schema"
	"manifold/value"
)

type (
	T = api.Type
	V = api.Value
	F = api.TypeField
)

var (
	flag   = T{Kind: api.Bool}
	digit  = T{Kind: api.Int, Min: 1, Max: 9}
	amount = T{Kind: api.Decimal, Min: -100, Max: 100, Scale: 2}
	short  = T{Kind: api.Text, Min: 1, Max: 5}
	words  = T{Kind: api.Text, Words: []string{"gold", "silver"}}
)

func record(l ...F) T  { return T{Kind: api.Record, Fields: l} }
func variant(l ...F) T { return T{Kind: api.Variant, Fields: l} }
func list(least, most int, elem T) T {
	return T{Kind: api.List, Min: least, Max: most, Elem: []T{elem}}
}

func required(number int, name string, t T) F {
	return F{Number: number, Name: name, Need: api.Required, Type: t}
}
func optional(number int, name string, t T) F {
	return F{Number: number, Name: name, Need: api.Optional, Type: t}
}
func defaulted(number int, name string, t T, v ...V) F {
	return F{Number: number, Name: name, Need: api.Defaulted, Type: t, Default: v}
}

// many returns a number of fields of a type.
func many(n int, t T) []F {
	var l []F
	for i := range n {
		l = append(l, required(i+1, "f"+strconv.Itoa(i), t))
	}
	return l
}

// nested returns a type within a number of lists of at most one element.
func nested(levels int, t T) T {
	for range levels {
		t = list(0, 1, t)
	}
	return t
}

// manyWords returns a number of words in order.
func manyWords(n int) []string {
	var l []string
	for i := range n {
		l = append(l, string([]byte{'a' + byte(i/26), 'a' + byte(i%26)}))
	}
	return l
}

type typeCase struct {
	t T
	e api.Errno
}

func checkAll(t *testing.T, l []typeCase) {
	t.Helper()
	for i, c := range l {
		if e := schema.Check(c.t); e != c.e {
			t.Errorf("%d: Check(%v) = %d, want %d", i, c.t, e, c.e)
		}
		// What a type has at the root it has as a part, too.
		if e := schema.Check(record(required(1, "a", flag), optional(2, "b", c.t))); e != c.e {
			t.Errorf("%d: Check of a record with %v = %d, want %d", i, c.t, e, c.e)
		}
	}
}

func TestP6_1Kinds(t *testing.T) {
	checkAll(t, []typeCase{
		{flag, api.OK}, {digit, api.OK}, {amount, api.OK}, {short, api.OK}, {words, api.OK}, {T{Kind: api.Bytes}, api.OK}, {T{Kind: api.Date}, api.OK}, {T{Kind: api.Time}, api.OK}, {list(0, 0, flag), api.OK}, {record(), api.OK}, {variant(required(1, "a", flag)), api.OK},
		{T{}, api.ErrKind}, {T{Kind: 11}, api.ErrKind}, {T{Kind: -1}, api.ErrKind}, {T{Kind: math.MaxInt}, api.ErrKind}, {T{Kind: math.MinInt}, api.ErrKind},
		{T{Kind: 11, Scale: 1, Words: []string{"b", "a"}}, api.ErrKind}, {T{Fields: many(65, T{})}, api.ErrKind},
	})
}

func TestP6_1Unused(t *testing.T) {
	elem, fields, text := []T{flag}, many(1, flag), []string{"a"}
	l := []typeCase{
		{T{Kind: api.Bool, Min: 1}, api.ErrFormat}, {T{Kind: api.Bool, Max: 1}, api.ErrFormat}, {T{Kind: api.Bool, Min: -1, Max: -1}, api.ErrFormat},
		{T{Kind: api.Record, Min: 1}, api.ErrFormat}, {T{Kind: api.Record, Max: -1}, api.ErrFormat}, {T{Kind: api.Variant, Min: -1, Fields: fields}, api.ErrFormat}, {T{Kind: api.Variant, Max: 1, Fields: fields}, api.ErrFormat},
		{T{Kind: api.Variant, Max: 1}, api.ErrFormat}, {T{Kind: api.List, Scale: 1, Min: 2}, api.ErrFormat}, {T{Kind: api.Int, Min: 2, Max: 1, Scale: -1}, api.ErrFormat},
		{T{Kind: api.List, Max: 1, Elem: elem, Words: []string{}, Fields: []F{}}, api.OK}, {T{Kind: api.Text, Words: text, Elem: []T{}, Fields: []F{}}, api.OK},
	}
	for kind := api.Bool; kind <= api.Variant; kind++ {
		x := T{Kind: kind}
		for uses, change := range map[int]func(x *T){
			api.Decimal: func(x *T) { x.Scale = 1 },
			api.Text:    func(x *T) { x.Words = text },
			api.List:    func(x *T) { x.Elem = elem },
			api.Record:  func(x *T) { x.Fields = fields },
		} {
			y := x
			change(&y)
			if kind != uses && !(kind == api.Variant && uses == api.Record) {
				l = append(l, typeCase{y, api.ErrFormat})
			}
		}
	}
	checkAll(t, l)
}

func TestP6_1Bounds(t *testing.T) {
	bounded := func(kind, least, most int) T {
		x := T{Kind: kind, Min: least, Max: most}
		if kind == api.List {
			x.Elem = []T{flag}
		}
		return x
	}
	var l []typeCase
	for kind, c := range map[int][2]int{
		api.Int: {-999999999999999, 999999999999999}, api.Decimal: {-999999999999999, 999999999999999}, api.Text: {0, 1024}, api.Bytes: {0, 1024},
		api.Date: {-719162, 2932896}, api.Time: {-719162 * 86400000, 2932896*86400000 + 86399999}, api.List: {0, 256},
	} {
		for _, b := range []struct {
			least, most int
			e           api.Errno
		}{
			{c[0], c[1], api.OK}, {c[0], c[0], api.OK}, {c[1], c[1], api.OK}, {c[0] + 2, c[1] - 2, api.OK}, {c[0] - 1, c[1], api.ErrRange}, {c[0], c[1] + 1, api.ErrRange}, {c[0] + 1, c[0], api.ErrRange}, {c[1], c[1] - 1, api.ErrRange},
			{c[0] - 1, c[0] - 1, api.ErrRange}, {c[1] + 1, c[1] + 1, api.ErrRange}, {math.MinInt, math.MaxInt, api.ErrRange}, {math.MaxInt, math.MinInt, api.ErrRange},
		} {
			l = append(l, typeCase{bounded(kind, b.least, b.most), b.e})
		}
	}
	scaled := func(n int) T { return T{Kind: api.Decimal, Max: 1, Scale: n} }
	checkAll(t, append(l, []typeCase{
		{scaled(0), api.OK}, {scaled(12), api.OK}, {scaled(13), api.ErrRange}, {scaled(-1), api.ErrRange}, {scaled(math.MaxInt), api.ErrRange}, {scaled(math.MinInt), api.ErrRange},
		{T{Kind: api.List, Max: 1}, api.ErrShort}, {T{Kind: api.List, Max: 1, Elem: []T{flag, flag}}, api.ErrFormat}, {T{Kind: api.List, Max: 1, Elem: []T{{}, {}}}, api.ErrFormat}, {T{Kind: api.List, Min: 1}, api.ErrRange}, {T{Kind: api.List, Max: 257, Elem: []T{{}}}, api.ErrRange}, {list(0, 1, T{}), api.ErrKind},
	}...))
}

func TestP6_1Words(t *testing.T) {
	text := func(l ...string) T { return T{Kind: api.Text, Words: l} }
	long := strings.Repeat("a", 1024)
	full := manyWords(64)
	checkAll(t, []typeCase{
		{text(""), api.OK}, {text("a"), api.OK}, {text("", "a", "aa", "b", "\xC3\xA9"), api.OK}, {text(long), api.OK}, {text("Z", "a"), api.OK}, {text(full...), api.OK},
		{text(append(full, "zz")...), api.ErrLimit}, {text(append([]string{"b", "a"}, full...)...), api.ErrLimit}, {text(long + "a"), api.ErrLong}, {text("a", long+"\xFF"), api.ErrLong}, {text("\xFF"), api.ErrText}, {text("\xC3"), api.ErrText}, {text("a", "\xED\xA0\x80"), api.ErrText},
		{text("a", "a"), api.ErrDuplicate}, {text("", ""), api.ErrDuplicate}, {text("b", "a"), api.ErrOrder}, {text("a", "Z"), api.ErrOrder}, {text("a", ""), api.ErrOrder}, {text("a", "b", "a"), api.ErrOrder},
		{text("b", "a", "a"), api.ErrOrder}, {text("a", "a", "\xFF"), api.ErrDuplicate}, {text("b", "\xFF", "a"), api.ErrText}, {text("\xFF", "\xFF"), api.ErrText},
		{T{Kind: api.Text, Min: 1, Words: full}, api.ErrFormat}, {T{Kind: api.Text, Max: 1, Words: full}, api.ErrFormat}, {T{Kind: api.Text, Min: -1, Max: -1, Words: []string{"b", "a"}}, api.ErrFormat}, {T{Kind: api.Text, Max: 2000, Words: append(full, "a")}, api.ErrFormat}, {T{Kind: api.Text, Words: []string{}}, api.OK},
	})
}

func TestP6_1Fields(t *testing.T) {
	long := strings.Repeat("a", 32)
	both := []struct {
		l []F
		e api.Errno
	}{
		{[]F{required(1, "a", flag)}, api.OK}, {[]F{required(2, "b", flag), required(1, "a", flag)}, api.OK}, {[]F{required(9999, long, flag)}, api.OK}, {many(64, flag), api.OK}, {many(65, flag), api.ErrLimit}, {many(65, T{}), api.ErrLimit}, {append([]F{{}}, many(64, flag)...), api.ErrLimit},
		{[]F{required(1, "", flag)}, api.ErrName}, {[]F{required(1, long+"a", flag)}, api.ErrName}, {[]F{required(1, "A", flag)}, api.ErrName}, {[]F{required(1, "1", flag)}, api.ErrName}, {[]F{required(1, "_", flag)}, api.ErrName}, {[]F{required(1, "a.b", flag)}, api.ErrName}, {[]F{required(1, "a\xFF", flag)}, api.ErrName},
		{[]F{required(0, "a", flag)}, api.ErrRange}, {[]F{required(-1, "a", flag)}, api.ErrRange}, {[]F{required(10000, "a", flag)}, api.ErrRange}, {[]F{required(math.MaxInt, "a", flag)}, api.ErrRange}, {[]F{required(math.MinInt, "a", flag)}, api.ErrRange},
		{[]F{required(1, "a", flag), required(2, "a", flag)}, api.ErrDuplicate}, {[]F{required(1, "a", flag), required(1, "b", flag)}, api.ErrDuplicate}, {[]F{required(1, "a", flag), required(2, "b", flag), required(3, "a", flag)}, api.ErrDuplicate}, {[]F{required(1, "a", flag), required(2, "b", flag), required(1, "c", flag)}, api.ErrDuplicate},
		{[]F{{Number: 1, Name: "a", Type: flag}}, api.ErrKind}, {[]F{{Number: 1, Name: "a", Need: 4, Type: flag}}, api.ErrKind}, {[]F{{Number: 1, Name: "a", Need: -1, Type: flag}}, api.ErrKind},
		{[]F{{Number: 1, Name: "a", Need: api.Required, Type: flag, Default: []V{value.Bool(true)}}}, api.ErrFormat}, {[]F{{Number: 1, Name: "a", Need: api.Required, Type: flag, Default: []V{}}}, api.OK}, {[]F{{Number: 1, Name: "a", Need: api.Required, Type: T{}, Default: []V{{}, {}}}}, api.ErrFormat},
		{[]F{{}}, api.ErrName}, {[]F{{Name: "a", Need: 4}}, api.ErrRange}, {[]F{required(1, "a", flag), {Number: 1, Name: "b", Need: 4}}, api.ErrDuplicate}, {[]F{{Number: 1, Name: "a", Need: 4, Default: []V{{}}}}, api.ErrKind},
		{[]F{required(0, "a", flag), required(1, "A", flag)}, api.ErrRange}, {[]F{required(1, "A", flag), required(0, "a", flag)}, api.ErrName}, {[]F{required(1, "a", T{}), required(2, "B", flag)}, api.ErrName}, {[]F{required(1, "a", T{}), required(2, "b", flag)}, api.ErrKind},
	}
	for _, c := range both {
		checkAll(t, []typeCase{{record(c.l...), c.e}, {variant(c.l...), c.e}})
	}
	checkAll(t, []typeCase{
		{variant(), api.ErrShort}, {record(), api.OK}, {variant(optional(1, "a", flag)), api.ErrKind}, {variant(defaulted(1, "a", flag, value.Bool(true))), api.ErrKind}, {variant(defaulted(1, "a", flag)), api.ErrKind}, {variant(required(1, "a", flag), optional(2, "b", flag)), api.ErrKind},
		{record(optional(1, "a", flag)), api.OK}, {record(defaulted(1, "a", flag, value.Bool(true))), api.OK}, {record(defaulted(1, "a", flag)), api.ErrShort}, {record(defaulted(1, "a", T{})), api.ErrShort}, {record(defaulted(1, "a", flag, value.Bool(true), value.Bool(true))), api.ErrFormat},
		{record(F{Number: 1, Name: "a", Need: api.Optional, Type: flag, Default: []V{value.Bool(true)}}), api.ErrFormat},
	})
}

func TestP6_1Defaults(t *testing.T) {
	inner := record(defaulted(1, "n", digit, value.Int(3)), optional(2, "m", digit))
	other := record(defaulted(1, "n", digit, value.Int(0)))
	n := func(n int) api.Field { return api.Field{Name: "n", Value: value.Int(n)} }
	tooMany := value.List(make([]V, 257)...)
	checkAll(t, []typeCase{
		{record(defaulted(1, "a", digit, value.Int(1))), api.OK}, {record(defaulted(1, "a", digit, value.Int(0))), api.ErrType}, {record(defaulted(1, "a", digit, value.Int(10))), api.ErrType}, {record(defaulted(1, "a", digit, V{})), api.ErrType}, {record(defaulted(1, "a", digit, value.Text("1"))), api.ErrType}, {record(defaulted(1, "a", digit, V{Kind: api.Int, Int: 1, Scale: 1})), api.ErrType},
		{record(defaulted(1, "a", amount, value.Decimal(1, 2))), api.OK}, {record(defaulted(1, "a", amount, value.Decimal(1, 1))), api.ErrType}, {record(defaulted(1, "a", words, value.Text("gold"))), api.OK}, {record(defaulted(1, "a", words, value.Text("bronze"))), api.ErrType},
		{record(defaulted(1, "a", inner, value.Record(n(3)))), api.OK}, {record(defaulted(1, "a", inner, value.Record())), api.ErrType}, {record(defaulted(1, "a", inner, value.Record(n(0)))), api.ErrType},
		{record(defaulted(1, "a", list(0, 256, flag), tooMany)), api.ErrType},
		// Everything that the type of a field consists of comes before its default, and the fields before it, too.
		{record(defaulted(1, "a", T{}, V{})), api.ErrKind}, {record(defaulted(1, "a", list(0, 1, T{}), value.Int(1))), api.ErrKind}, {record(defaulted(1, "a", other, value.Int(1))), api.ErrType}, {record(defaulted(1, "a", digit, value.Int(0)), required(2, "b", T{})), api.ErrType}, {record(required(2, "b", T{}), defaulted(1, "a", digit, value.Int(0))), api.ErrKind},
		{record(defaulted(1, "a", digit, value.Int(0)), required(2, "B", flag)), api.ErrName}, {record(defaulted(1, "a", record(required(1, "b", nested(6, flag))), V{})), api.ErrDepth},
		{record(required(1, "a", variant(required(1, "b", record(defaulted(1, "c", digit, value.Int(0))))))), api.ErrType}, {list(0, 0, other), api.ErrType},
	})
}

func TestP6_1Depth(t *testing.T) {
	for i, c := range []typeCase{
		{nested(7, flag), api.OK}, {nested(8, flag), api.ErrDepth}, {nested(8, T{}), api.ErrDepth}, {nested(7, T{}), api.ErrKind}, {nested(100, flag), api.ErrDepth}, {nested(7, record()), api.OK}, {nested(7, record(required(1, "a", flag))), api.ErrDepth}, {nested(7, variant(required(1, "a", flag))), api.ErrDepth}, {nested(7, record(required(1, "A", flag))), api.ErrName},
		{record(required(1, "a", nested(7, flag)), required(2, "b", T{})), api.ErrDepth}, {record(required(1, "a", T{}), required(2, "b", nested(7, flag))), api.ErrKind}, {record(required(1, "a", nested(7, flag)), defaulted(2, "b", digit, V{})), api.ErrDepth}, {record(defaulted(1, "a", digit, V{}), required(2, "b", nested(7, flag))), api.ErrType},
	} {
		if e := schema.Check(c.t); e != c.e {
			t.Errorf("%d: Check = %d, want %d", i, e, c.e)
		}
	}
}

// sized returns a record of 1 + 65 n types, whose least value is small, and of further fields.
func sized(n int, further ...T) T {
	x := record()
	for _, f := range append(many(n, record(many(64, flag)...)), many(len(further), flag)...) {
		number := len(x.Fields) + 1
		x.Fields = append(x.Fields, optional(number, "f"+strconv.Itoa(number), f.Type))
	}
	for i, f := range further {
		x.Fields[n+i].Type = f
	}
	return x
}

func TestP6_1Nodes(t *testing.T) {
	filler := record(many(57, flag)...)
	for i, c := range []struct {
		t    T
		size int
		e    api.Errno
	}{
		{sized(63), 4096, api.OK}, {sized(63, flag), 4097, api.ErrLimit}, {sized(63, T{}), 4097, api.ErrLimit}, {sized(62, record(many(63, flag)...)), 4095, api.OK}, {sized(62, record(many(63, flag)...), T{}), 4096, api.ErrKind}, {sized(62, record(many(63, flag)...), list(0, 1, T{})), 4097, api.ErrLimit},
		// The type that is one too many is too deep, too.
		{sized(62, filler, nested(7, flag)), 4097, api.ErrLimit}, {sized(62, record(many(56, flag)...), nested(7, flag)), 4096, api.ErrDepth}, {sized(62, filler, nested(6, flag)), 4096, api.OK},
	} {
		if e := schema.Check(c.t); e != c.e || schema.Size(c.t) != c.size {
			t.Errorf("%d: Check = %d, want %d; Size = %d", i, e, c.e, schema.Size(c.t))
		}
	}
}

func TestP6_1LeastValue(t *testing.T) {
	wide := list(255, 256, list(15, 15, flag)) // 1 + 255*16 values
	field := func(f F) T { return record(f) }
	full := record(append(many(14, flag), required(50, "a", wide))...) // 4096 values
	least, _ := schema.Least(wide)
	for i, c := range []typeCase{
		{wide, api.OK}, {list(256, 256, list(15, 15, flag)), api.ErrLimit}, {list(255, 255, list(16, 16, flag)), api.ErrLimit}, {list(1, 1, list(255, 255, list(15, 15, flag))), api.OK},
		{record(required(1, "a", wide)), api.OK}, {record(many(14, flag)...), api.OK}, {record(append(many(14, flag), required(50, "a", wide))...), api.OK}, {record(append(many(15, flag), required(50, "a", wide))...), api.ErrLimit}, {record(append(many(14, flag), required(50, "a", wide), optional(51, "b", flag))...), api.OK},
		{field(required(1, "a", list(64, 64, list(64, 64, flag)))), api.ErrLimit}, {field(optional(1, "a", list(64, 64, list(64, 64, flag)))), api.ErrLimit}, {list(0, 256, list(64, 64, list(64, 64, flag))), api.ErrLimit}, {list(0, 0, list(256, 256, list(256, 256, flag))), api.ErrLimit}, {variant(required(1, "a", flag), required(2, "b", list(64, 64, list(64, 64, flag)))), api.ErrLimit},
		{record(required(1, "a", wide), optional(2, "b", wide)), api.OK}, {record(required(1, "a", wide), required(2, "b", wide)), api.ErrLimit}, {variant(required(1, "a", wide), required(2, "b", wide)), api.OK}, {list(2, 2, wide), api.ErrLimit}, {list(1, 256, wide), api.OK}, {list(2, 2, record(optional(1, "a", wide))), api.OK},
		{record(required(1, "a", wide), defaulted(2, "b", list(0, 20, flag), value.List())), api.OK}, {record(required(1, "a", wide), defaulted(2, "b", list(0, 20, flag), value.List(slicesOf(13, value.Bool(true))...))), api.OK}, {record(required(1, "a", wide), defaulted(2, "b", list(0, 20, flag), value.List(slicesOf(14, value.Bool(true))...))), api.ErrLimit}, {record(defaulted(1, "a", wide, least), defaulted(2, "b", wide, least)), api.ErrLimit}, {record(defaulted(1, "a", wide, least)), api.OK},
		{variant(required(1, "a", full)), api.ErrLimit}, {variant(required(1, "a", full), required(2, "b", flag)), api.ErrLimit}, {variant(required(1, "a", flag), required(2, "b", full)), api.OK}, {list(1, 1, full), api.ErrLimit}, {record(required(1, "a", full)), api.ErrLimit}, {record(optional(1, "a", full)), api.OK},
		// It comes last, and the numbers do not overflow.
		{record(required(1, "a", list(2, 2, wide)), required(2, "b", T{})), api.ErrKind}, {record(required(1, "a", list(2, 2, wide)), defaulted(2, "b", digit, value.Int(0))), api.ErrType}, {list(256, 256, list(256, 256, list(256, 256, list(256, 256, list(256, 256, list(256, 256, list(256, 256, flag))))))), api.ErrLimit},
	} {
		if e := schema.Check(c.t); e != c.e {
			t.Errorf("%d: Check = %d, want %d", i, e, c.e)
		}
	}
}

func slicesOf(n int, v V) []V {
	var l []V
	for range n {
		l = append(l, v)
	}
	return l
}

func TestP6_2CheckSchema(t *testing.T) {
	good := record(required(1, "n", digit))
	for i, c := range []struct {
		s api.Schema
		e api.Errno
	}{
		{api.Schema{Name: "order", Version: 1, Type: good}, api.OK}, {api.Schema{Name: "o_1", Version: 999, Type: record()}, api.OK}, {api.Schema{}, api.ErrName}, {api.Schema{Name: "Order", Version: 1, Type: good}, api.ErrName}, {api.Schema{Name: "order", Type: good}, api.ErrRange}, {api.Schema{Name: "order", Version: 1000, Type: good}, api.ErrRange}, {api.Schema{Name: "order", Version: -1, Type: good}, api.ErrRange},
		{api.Schema{Name: strings.Repeat("a", 33), Type: flag}, api.ErrName}, {api.Schema{Name: "order", Type: flag}, api.ErrRange}, {api.Schema{Name: "order", Version: 1, Type: flag}, api.ErrKind}, {api.Schema{Name: "order", Version: 1, Type: variant(required(1, "a", flag))}, api.ErrKind}, {api.Schema{Name: "order", Version: 1, Type: list(0, 1, good)}, api.ErrKind}, {api.Schema{Name: "order", Version: 1}, api.ErrKind}, {api.Schema{Name: "order", Version: 1, Type: T{Kind: api.Bool, Min: 1}}, api.ErrKind},
		{api.Schema{Name: "order", Version: 1, Type: record(required(1, "n", T{Kind: api.Int, Min: 1}))}, api.ErrRange}, {api.Schema{Name: "order", Version: 1, Type: T{Kind: api.Record, Min: 1}}, api.ErrFormat}, {api.Schema{Name: "order", Version: 1, Type: record(required(1, "N", digit))}, api.ErrName}, {api.Schema{Name: "order", Version: 1, Type: record(defaulted(1, "n", digit, value.Int(0)))}, api.ErrType},
	} {
		if e := schema.CheckSchema(c.s); e != c.e {
			t.Errorf("%d: CheckSchema(%v) = %d, want %d", i, c.s, e, c.e)
		}
	}
}
