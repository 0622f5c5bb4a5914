package fit_test

import (
	"math"
	"slices"
	"strconv"
	"strings"
	"testing"

	"manifold/api"
	"manifold/fit"
	"manifold/value"
)

type (
	T = api.Type
	V = api.Value
	F = api.TypeField
)

var (
	flag   = T{Kind: api.Bool}
	digit  = T{Kind: api.Int, Min: 1, Max: 9}
	amount = T{Kind: api.Decimal, Min: -100, Max: 100, Scale: 2}
	note   = T{Kind: api.Text, Max: 3}
	words  = T{Kind: api.Text, Words: []string{"a", "b"}}
)

func record(l ...F) T  { return T{Kind: api.Record, Fields: l} }
func variant(l ...F) T { return T{Kind: api.Variant, Fields: l} }
func list(least, most int, elem T) T {
	return T{Kind: api.List, Min: least, Max: most, Elem: []T{elem}}
}

func required(name string, t T) F { return F{Name: name, Need: api.Required, Type: t} }
func optional(name string, t T) F { return F{Name: name, Need: api.Optional, Type: t} }
func defaulted(name string, t T, l ...V) F {
	return F{Name: name, Need: api.Defaulted, Type: t, Default: l}
}

func at(name string, v V) api.Field { return api.Field{Name: name, Value: v} }

// raw returns the record of some fields as they are.
func raw(l ...api.Field) V { return V{Kind: api.Record, Fields: l} }

// order is the type of the first example of the document.
func order() T {
	return record(required("id", digit), optional("note", note), defaulted("kind", words, value.Text("a")))
}

type fitCase struct {
	t    T
	v    V
	want []string
}

func compareAll(t *testing.T, l []fitCase) {
	t.Helper()
	for i, c := range l {
		var got []string
		for _, m := range fit.Misfits(c.t, c.v) {
			got = append(got, fit.Text(m))
		}
		if !slices.Equal(got, c.want) {
			t.Errorf("%d: Misfits(%v, %v) = %q, want %q", i, c.t, c.v, got, c.want)
		}
		if fits := fit.Fits(c.t, c.v); fits != (len(c.want) == 0) {
			t.Errorf("%d: Fits(%v, %v) = %t", i, c.t, c.v, fits)
		}
	}
}

func TestTerms(t *testing.T) {
	codes := []int{fit.Kind, fit.Range, fit.Scale, fit.Word, fit.Missing, fit.Unknown, fit.Case, fit.Invalid}
	if !slices.Equal(codes, []int{1, 2, 3, 4, 5, 6, 7, 8}) || fit.MaxMisfits != 64 {
		t.Error("the constants")
	}
}

func TestP7_1Kinds(t *testing.T) {
	none, kind := []string(nil), []string{"kind"}
	l := []fitCase{
		{T{}, V{}, kind}, {T{Kind: 11}, V{Kind: 11}, kind}, {T{Kind: -1}, V{Kind: -1}, kind}, {T{Kind: math.MinInt}, V{Kind: math.MinInt}, kind}, {flag, V{}, kind}, {T{}, value.Bool(true), kind}, {digit, value.Date(1), kind}, {T{Kind: api.Bytes, Max: 9}, value.Text("a"), kind}, {note, value.Bytes("a"), kind},
		// Another kind comes before what is not formed, and is all.
		{flag, V{Kind: api.Int, Int: 2, Text: "x"}, kind}, {note, V{Kind: api.Bytes, Text: "\xFF", Int: 1}, kind}, {order(), V{Kind: api.Variant}, kind},
	}
	for k := api.Bool; k <= api.Variant; k++ {
		v := V{Kind: k}
		want := none
		if k == api.Variant {
			want = []string{"invalid"}
		}
		l = append(l, fitCase{T{Kind: k}, v, want}, fitCase{T{Kind: k%10 + 1}, v, kind}, fitCase{T{}, v, kind}, fitCase{T{Kind: k}, V{}, kind})
	}
	compareAll(t, l)
}

func TestP7_1Formed(t *testing.T) {
	one := value.Int(1)
	bad := []string{"invalid"}
	loose := T{Min: math.MinInt, Max: math.MaxInt, Scale: 1, Elem: []T{digit}, Fields: []F{required("a", digit)}}
	of := func(kind int) T { x := loose; x.Kind = kind; return x }
	l := []fitCase{
		{flag, value.Bool(true), nil}, {flag, value.Bool(false), nil}, {flag, V{Kind: api.Bool, Int: 2}, bad}, {flag, V{Kind: api.Bool, Int: -1}, bad},
		{of(api.Int), value.Int(math.MinInt), nil}, {of(api.Date), value.Date(math.MaxInt), nil}, {of(api.Time), value.Time(math.MinInt), nil}, {of(api.Decimal), value.Decimal(math.MaxInt, 1), nil},
		{of(api.Text), value.Text("\xC3\xA9"), nil}, {of(api.Text), value.Text("\xC3"), bad}, {of(api.Text), value.Text("a\xFF"), bad}, {of(api.Text), value.Text("\xED\xA0\x80"), bad}, {of(api.Bytes), value.Bytes("\xFF"), nil}, {of(api.Text), value.Text(strings.Repeat("a", 2000)), nil},
		{of(api.Record), raw(at("a", one)), nil}, {of(api.Record), raw(at("a", one), at("a", one)), bad}, {record(required("a", digit), required("b", digit)), raw(at("b", one), at("a", one)), bad}, {record(required("", digit), required("A b", digit)), raw(at("", one), at("A b", one)), nil}, {record(required("", digit)), raw(at("", one), at("", one)), bad}, {record(), raw(at("a", one), at("b", one), at("b", one)), bad},
		{of(api.Variant), V{Kind: api.Variant, Text: "a"}, bad}, {of(api.Variant), V{Kind: api.Variant, Text: "a", List: []V{one, one}}, bad}, {of(api.Variant), V{Kind: api.Variant, Text: "a", List: []V{one}}, nil}, {variant(required("", digit)), V{Kind: api.Variant, List: []V{one}}, nil},
		// Words, numbers and elements do not count if a value is not formed.
		{words, value.Text("\xFF"), bad}, {digit, V{Kind: api.Int, Int: 12, Scale: 1}, bad}, {list(1, 1, digit), V{Kind: api.List, Int: 1}, bad}, {amount, V{Kind: api.Decimal, Text: "x"}, bad}, {record(required("a", digit)), V{Kind: api.Record, List: []V{one}}, bad},
	}
	good := map[int]V{api.Bool: value.Bool(true), api.Int: one, api.Decimal: value.Decimal(1, 1), api.Text: value.Text("a"), api.Bytes: value.Bytes("a"), api.Date: value.Date(1), api.Time: value.Time(1), api.List: value.List(one), api.Record: raw(at("a", one)), api.Variant: value.Variant("a", one)}
	for kind := api.Bool; kind <= api.Variant; kind++ {
		v := good[kind]
		l = append(l, fitCase{of(kind), v, nil})
		number, scale, text, elem, field := v, v, v, v, v
		number.Int, scale.Scale, text.Text, elem.List, field.Fields = 1, 1, "a", []V{one}, []api.Field{at("a", one)}
		if v.Int == 0 {
			l = append(l, fitCase{of(kind), number, bad})
		}
		if v.Scale == 0 {
			l = append(l, fitCase{of(kind), scale, bad})
		}
		if v.Text == "" {
			l = append(l, fitCase{of(kind), text, bad})
		}
		if v.List == nil {
			l = append(l, fitCase{of(kind), elem, bad})
			elem.List = []V{}
			l = append(l, fitCase{of(kind), elem, nil})
		}
		if v.Fields == nil {
			l = append(l, fitCase{of(kind), field, bad})
			field.Fields = []api.Field{}
			l = append(l, fitCase{of(kind), field, nil})
		}
	}
	compareAll(t, l)
}

func TestP7_1Single(t *testing.T) {
	out, scale, word := []string{"range"}, []string{"scale"}, []string{"word"}
	text := value.Text
	days := T{Kind: api.Date, Min: -1, Max: 1}
	times := T{Kind: api.Time, Min: -1, Max: 1}
	bytes := T{Kind: api.Bytes, Min: 1, Max: 2}
	compareAll(t, []fitCase{
		{digit, value.Int(1), nil}, {digit, value.Int(9), nil}, {digit, value.Int(0), out}, {digit, value.Int(10), out}, {days, value.Date(-1), nil}, {days, value.Date(1), nil}, {days, value.Date(-2), out}, {days, value.Date(2), out}, {times, value.Time(-1), nil}, {times, value.Time(1), nil}, {times, value.Time(-2), out}, {times, value.Time(2), out}, {T{Kind: api.Int, Min: 9, Max: 1}, value.Int(5), out},
		{amount, value.Decimal(100, 2), nil}, {amount, value.Decimal(-100, 2), nil}, {amount, value.Decimal(101, 2), out}, {amount, value.Decimal(-101, 2), out}, {amount, value.Decimal(1, 1), scale}, {amount, value.Decimal(1000, 3), scale}, {amount, value.Decimal(0, 0), scale}, {T{Kind: api.Decimal, Max: 1, Scale: -1}, value.Decimal(1, -1), nil},
		{note, text(""), nil}, {note, text("abc"), nil}, {note, text("abcd"), out}, {note, text("\xC3\xA9a"), nil}, {note, text("\xC3\xA9\xC3\xA9"), out}, {T{Kind: api.Text, Min: 2, Max: 2}, text("a"), out}, {T{Kind: api.Text, Min: 2, Max: 2}, text("ab"), nil},
		{words, text("a"), nil}, {words, text("b"), nil}, {words, text("c"), word}, {words, text(""), word}, {words, text("ab"), word}, {T{Kind: api.Text, Min: 5, Max: 9, Words: []string{"b", "a"}}, text("a"), nil}, {T{Kind: api.Text, Max: 9, Words: []string{"b", "a"}}, text("c"), word}, {T{Kind: api.Text, Max: 9, Words: []string{}}, text("c"), nil},
		{bytes, value.Bytes("a"), nil}, {bytes, value.Bytes("\x00\xFF"), nil}, {bytes, value.Bytes(""), out}, {bytes, value.Bytes("abc"), out}, {T{Kind: api.Bytes, Max: 2, Words: []string{"a"}}, value.Bytes("b"), nil}, {T{Kind: api.Bytes, Words: []string{"a"}}, value.Bytes("a"), out}, {T{Kind: api.Bool, Min: 7, Max: 3, Scale: 4}, value.Bool(true), nil},
	})
}

func TestP7_1Lists(t *testing.T) {
	one, bad := value.Int(1), value.Int(0)
	compareAll(t, []fitCase{
		{list(1, 2, digit), value.List(one), nil}, {list(1, 2, digit), value.List(one, one), nil}, {list(1, 2, digit), value.List(), []string{"range"}}, {list(1, 2, digit), value.List(one, one, one), []string{"range"}}, {list(1, 2, digit), value.List(bad, one, bad), []string{"range", "[0]: range", "[2]: range"}}, {list(1, 2, digit), value.List(one, V{}), []string{"[1]: kind"}}, {list(0, 0, digit), value.List(), nil},
		{list(0, 9, list(0, 2, digit)), value.List(value.List(), value.List(one, bad), value.List(one, one, one, value.Text("x"))), []string{"[1][1]: range", "[2]: range", "[2][3]: kind"}}, {list(0, 9, T{}), value.List(one, V{}), []string{"[0]: kind", "[1]: kind"}},
		{T{Kind: api.List, Max: 9}, value.List(one, V{}), []string{"[0]: kind", "[1]: kind"}}, {T{Kind: api.List, Max: 9, Elem: []T{digit, digit}}, value.List(one, V{}), []string{"[0]: kind", "[1]: kind"}}, {T{Kind: api.List, Max: 9}, value.List(), nil}, {T{Kind: api.List, Elem: []T{digit, digit}}, value.List(one), []string{"range", "[0]: kind"}},
	})
	rows := V{Kind: api.List}
	for range 1000 {
		rows.List = append(rows.List, one)
	}
	rows.List[999], rows.List[100] = bad, V{}
	compareAll(t, []fitCase{{list(0, 1000, digit), rows, []string{"[100]: kind", "[999]: range"}}, {list(0, 999, digit), rows, []string{"range", "[100]: kind", "[999]: range"}}})
}

func TestP7_1Records(t *testing.T) {
	one, bad, text := value.Int(1), value.Int(0), value.Text
	inner := record(required("a", digit), optional("b", list(0, 1, digit)))
	twice := record(required("a", digit), required("a", words), optional("a", T{Kind: api.Int, Max: 0}))
	compareAll(t, []fitCase{
		{order(), raw(at("id", value.Int(12)), at("more", value.Bool(true))), []string{"id: range", "kind: missing", "more: unknown"}}, {order(), raw(at("id", one), at("kind", text("b"))), nil}, {order(), raw(at("id", one), at("kind", text("b")), at("note", text("abc"))), nil}, {order(), raw(), []string{"id: missing", "kind: missing"}},
		{order(), raw(at("ia", one), at("id", one), at("kinc", one), at("kind", text("c")), at("note", one), at("z", V{})), []string{"note: kind", "kind: word", "ia: unknown", "kinc: unknown", "z: unknown"}}, {record(), raw(), nil}, {record(), raw(at("b", V{}), at("c", one)), []string{"b: unknown", "c: unknown"}}, {record(required("a", T{})), raw(at("a", one)), []string{"a: kind"}}, {record(F{Name: "a", Type: digit}), raw(), []string{"a: missing"}}, {record(F{Name: "a", Need: 7, Type: digit}), raw(), []string{"a: missing"}}, {record(optional("a", T{})), raw(), nil},
		{record(required("x", inner), optional("y", list(0, 9, inner))), raw(at("x", raw(at("b", value.List(bad)))), at("y", value.List(raw(at("a", one)), raw(at("a", bad), at("c", one)), one))), []string{"x.a: missing", "x.b[0]: range", "y[1].a: range", "y[1].c: unknown", "y[2]: kind"}},
		// Every field with a name counts, and none of them is unknown.
		{twice, raw(at("a", one)), []string{"a: kind", "a: range"}}, {twice, raw(at("a", text("c"))), []string{"a: kind", "a: word", "a: kind"}}, {twice, raw(), []string{"a: missing", "a: missing"}}, {record(optional("a", digit), optional("a", digit)), raw(at("a", one)), nil},
		// The path of a field without a name is empty.
		{record(required("", inner)), raw(at("", raw())), []string{"a: missing"}}, {record(required("", list(0, 1, digit))), raw(at("", value.List(bad))), []string{"[0]: range"}}, {record(required("", digit), required("b", record(required("", digit)))), raw(at("b", raw())), []string{"missing", "b.: missing"}},
	})
}

func TestP7_1Variants(t *testing.T) {
	one, bad := value.Int(1), value.Int(0)
	x := variant(required("c", digit), required("d", record(required("v", variant(required("e", list(1, 1, digit)))))))
	compareAll(t, []fitCase{
		{x, value.Variant("c", one), nil}, {x, value.Variant("c", bad), []string{"?c: range"}}, {x, value.Variant("c", V{}), []string{"?c: kind"}}, {x, value.Variant("e", one), []string{"case"}}, {x, value.Variant("", V{}), []string{"case"}}, {variant(), value.Variant("c", one), []string{"case"}}, {variant(required("c", T{})), value.Variant("c", one), []string{"?c: kind"}},
		{x, value.Variant("d", raw(at("v", value.Variant("e", value.List(bad))))), []string{"?d.v?e[0]: range"}}, {x, value.Variant("d", raw(at("v", value.Variant("e", value.List())))), []string{"?d.v?e: range"}}, {x, value.Variant("d", raw(at("v", value.Variant("f", one)))), []string{"?d.v: case"}}, {record(required("v", x)), raw(at("v", value.Variant("c", bad))), []string{"v?c: range"}}, {list(0, 1, x), value.List(value.Variant("c", bad)), []string{"[0]?c: range"}},
		// Only the first case with a name counts.
		{variant(required("c", digit), required("c", words)), value.Variant("c", one), nil}, {variant(required("c", words), required("c", digit)), value.Variant("c", one), []string{"?c: kind"}}, {variant(optional("c", digit)), value.Variant("c", bad), []string{"?c: range"}}, {variant(required("", record(required("a", digit)))), value.Variant("", raw()), []string{"?.a: missing"}},
	})
}

func TestP7_1Limit(t *testing.T) {
	many := func(n int, v V) V { return V{Kind: api.List, List: slices.Repeat([]V{v}, n)} }
	var missing []F
	var unknown []api.Field
	for i := range 100 {
		missing = append(missing, required("m"+strconv.Itoa(i), digit))
		unknown = append(unknown, at("u"+string([]byte{'a' + byte(i/26), 'a' + byte(i%26)}), value.Int(0)))
	}
	for i, c := range []struct {
		t       T
		v       V
		n, code int
		last    string
	}{
		{list(0, 200, digit), many(63, V{}), 63, fit.Kind, "[62]"}, {list(0, 200, digit), many(64, V{}), 64, fit.Kind, "[63]"}, {list(0, 200, digit), many(65, V{}), 64, fit.Kind, "[63]"}, {list(0, 0, digit), many(64, V{}), 64, fit.Kind, "[62]"}, {list(0, 9, list(0, 0, digit)), value.List(many(40, V{}), many(40, V{})), 64, fit.Kind, "[1][21]"},
		{record(missing...), raw(), 64, fit.Missing, "m63"}, {record(missing[:64]...), raw(unknown...), 64, fit.Missing, "m63"}, {record(missing[:63]...), raw(unknown...), 64, fit.Unknown, "uaa"}, {record(missing[:10]...), raw(unknown...), 64, fit.Unknown, "ucb"}, {record(), raw(unknown...), 64, fit.Unknown, "ucl"}, {list(0, 99, record(missing[:2]...)), many(99, raw(unknown[:3]...)), 64, fit.Unknown, "[12].uab"},
		{record(required("a", list(0, 99, digit)), required("b", digit)), raw(at("a", many(64, V{}))), 64, fit.Kind, "a[63]"}, {record(required("a", list(0, 99, digit)), required("b", digit)), raw(at("a", many(63, V{}))), 64, fit.Missing, "b"}, {variant(required("a", list(0, 99, digit))), value.Variant("a", many(99, V{})), 64, fit.Kind, "?a[63]"},
	} {
		l := fit.Misfits(c.t, c.v)
		if len(l) != c.n || l[len(l)-1] != (fit.Misfit{Path: c.last, Code: c.code}) {
			t.Errorf("%d: %d misfits, the last one %v", i, len(l), l[len(l)-1])
		}
		if fit.Fits(c.t, c.v) {
			t.Errorf("%d: fits", i)
		}
	}
}

func TestP7_3Flat(t *testing.T) {
	for i, c := range []struct {
		t    T
		flat bool
	}{
		{record(required("a", flag)), true}, {order(), true}, {record(required("a", T{Kind: api.Int}), optional("b", T{Kind: api.Decimal}), required("c", T{Kind: api.Bytes}), required("d", T{Kind: api.Date}), required("e", T{Kind: api.Time}), required("f", note), required("g", flag)), true},
		{record(), false}, {record(required("a", list(0, 1, flag))), false}, {record(required("a", flag), required("b", record(required("c", flag)))), false}, {record(required("a", variant(required("b", flag)))), false}, {record(required("a", flag), required("b", T{})), false}, {record(required("b", T{Kind: 11}), required("a", flag)), false}, {record(required("b", T{Kind: -1})), false},
		{variant(required("a", flag)), false}, {flag, false}, {T{}, false}, {T{Fields: []F{required("a", flag)}}, false}, {T{Kind: api.List, Fields: []F{required("a", flag)}}, false}, {list(0, 1, order()), false}, {T{Kind: 11, Fields: []F{required("a", flag)}}, false},
	} {
		if flat := fit.Flat(c.t); flat != c.flat {
			t.Errorf("%d: Flat(%v) = %t", i, c.t, flat)
		}
	}
}

func TestP7_4Name(t *testing.T) {
	for i, want := range []string{"", "kind", "range", "scale", "word", "missing", "unknown", "case", "invalid", "", ""} {
		if s := fit.Name(i); s != want {
			t.Errorf("Name(%d) = %q", i, s)
		}
	}
	for _, code := range []int{-1, math.MinInt, math.MaxInt, 100} {
		if s := fit.Name(code); s != "" {
			t.Errorf("Name(%d) = %q", code, s)
		}
	}
}

func TestP7_4Text(t *testing.T) {
	for _, c := range []struct {
		m    fit.Misfit
		want string
	}{
		{fit.Misfit{Path: "l[1]", Code: fit.Kind}, "l[1]: kind"}, {fit.Misfit{Path: "v?c", Code: fit.Range}, "v?c: range"}, {fit.Misfit{Code: fit.Invalid}, "invalid"}, {fit.Misfit{Path: "a", Code: 9}, "a: "}, {fit.Misfit{}, ""}, {fit.Misfit{Path: " ", Code: fit.Case}, " : case"}, {fit.Misfit{Path: "a", Code: -1}, "a: "},
	} {
		if s := fit.Text(c.m); s != c.want {
			t.Errorf("Text(%v) = %q", c.m, s)
		}
	}
}
