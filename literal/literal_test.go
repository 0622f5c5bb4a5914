package literal_test

import (
	"fmt"
	"strings"
	"testing"

	"manifold/api"
	"manifold/literal"
	"manifold/schema"
	"manifold/value"
)

type (
	T = api.Type
	V = api.Value
	F = api.TypeField
)

const most = api.MaxNumber

var flag = T{Kind: api.Bool}

func bounded(kind, least, most int) T { return T{Kind: kind, Min: least, Max: most} }
func amount(s, least, most int) T     { return T{Kind: api.Decimal, Scale: s, Min: least, Max: most} }
func words(l ...string) T             { return T{Kind: api.Text, Words: l} }
func list(least, most int, t T) T     { return T{Kind: api.List, Min: least, Max: most, Elem: []T{t}} }
func record(l ...F) T                 { return T{Kind: api.Record, Fields: l} }
func variant(l ...F) T                { return T{Kind: api.Variant, Fields: l} }

func required(n int, name string, t T) F {
	return F{Number: n, Name: name, Need: api.Required, Type: t}
}
func optional(n int, name string, t T) F {
	return F{Number: n, Name: name, Need: api.Optional, Type: t}
}
func defaulted(n int, name string, t T, v V) F {
	return F{Number: n, Name: name, Need: api.Defaulted, Type: t, Default: []V{v}}
}

func at(name string, v V) api.Field { return api.Field{Name: name, Value: v} }

// nested returns a value or a type within a number of lists.
func nested(n int, v V) V {
	for range n {
		v = value.List(v)
	}
	return v
}

func nestedType(n int, t T) T {
	for range n {
		t = list(0, 1, t)
	}
	return t
}

// long returns the list of 64 texts whose text has a number of bytes from 65536 on.
func long(size int) V {
	var l []V
	for range 63 {
		l = append(l, value.Text(strings.Repeat("x", 1020)))
	}
	return value.List(append(l, value.Text(strings.Repeat("x", 1020+size-65536)))...)
}

// longType returns a type of 64 words whose text has a number of bytes from 65536 on.
func longType(size int) T {
	var l []string
	for i := range 64 {
		n := 1016
		if i < 61 {
			n = 1017
		}
		if i == 63 {
			n += size - 65536
		}
		l = append(l, fmt.Sprintf("%02d", i)+strings.Repeat("x", n))
	}
	return words(l...)
}

func values() map[string]V {
	name := strings.Repeat("n", 32)
	return map[string]V{
		"null": {}, "true": value.Bool(true), "false": value.Bool(false),
		"0": value.Int(0), "7": value.Int(7), "-12": value.Int(-12), "999999999999999": value.Int(most), "-999999999999999": value.Int(-most),
		"0d": value.Decimal(0, 0), "-3d": value.Decimal(-3, 0), "999999999999999d": value.Decimal(most, 0), "0.0": value.Decimal(0, 1), "12.50": value.Decimal(1250, 2), "-0.005": value.Decimal(-5, 3), "-999.999999999999": value.Decimal(-most, 12),
		`""`: value.Text(""), `"a b"`: value.Text("a b"), `"\"\\\n\r\t"`: value.Text("\"\\\n\r\t"), `"\u{0}\u{1}\u{b}\u{1f}\u{7f} ~"`: value.Text("\x00\x01\x0B\x1F\x7F ~"), "\"é€\U0010FFFF\u0080\"": value.Text("é€\U0010FFFF\u0080"), `"'/x{}"`: value.Text("'/x{}"),
		`x""`: value.Bytes(""), `x"00ab"`: value.Bytes("\x00\xAB"), `x"ff22"`: value.Bytes("\xFF\""),
		`date "1970-01-01"`: value.Date(0), `date "0001-01-01"`: value.Date(value.MinDate), `date "9999-12-31"`: value.Date(value.MaxDate),
		`time "1970-01-02T00:00:00.001Z"`: value.Time(86400001), `time "0001-01-01T00:00:00Z"`: value.Time(value.MinTime), `time "9999-12-31T23:59:59.999Z"`: value.Time(value.MaxTime),
		"[]": value.List(), "[1]": value.List(value.Int(1)), `[1, 1d, "1", []]`: value.List(value.Int(1), value.Decimal(1, 0), value.Text("1"), value.List()), "[[[[[[[1]]]]]]]": nested(7, value.Int(1)), "[[[[[[[[]]]]]]]]": nested(7, value.List()),
		"{}": value.Record(), "{a: {}}": value.Record(at("a", value.Record())), "{a: 1, aa: 2, b: true}": value.Record(at("b", value.Bool(true)), at("aa", value.Int(2)), at("a", value.Int(1))), "{" + name + ": 1}": value.Record(at(name, value.Int(1))), `{date: date "1970-01-02", null: 1, x: x"01"}`: value.Record(at("null", value.Int(1)), at("date", value.Date(1)), at("x", value.Bytes("\x01"))),
		"card([1, 2])": value.Variant("card", value.List(value.Int(1), value.Int(2))), "null(1)": value.Variant("null", value.Int(1)), "true(false)": value.Variant("true", value.Bool(false)), `date(date "1970-01-01")`: value.Variant("date", value.Date(0)), "x(x(1))": value.Variant("x", value.Variant("x", value.Int(1))), "a_1({})": value.Variant("a_1", value.Record()),
		`{a: 12.50, b: [true, "a\"b"], c: card(date "1970-01-01")}`: value.Record(at("a", value.Decimal(1250, 2)), at("b", value.List(value.Bool(true), value.Text("a\"b"))), at("c", value.Variant("card", value.Date(0)))),
	}
}

func types() map[string]T {
	day, instant := bounded(api.Date, 0, 1), bounded(api.Time, 0, 1)
	return map[string]T{
		"bool": flag, "int(-5..5)": bounded(api.Int, -5, 5), "int(0..0)": bounded(api.Int, 0, 0), "int(-999999999999999..999999999999999)": bounded(api.Int, -most, most),
		"decimal(0, -1..9)": amount(0, -1, 9), "decimal(2, -1.00..99.99)": amount(2, -100, 9999), "decimal(12, 0.000000000000..999.999999999999)": amount(12, 0, most),
		"text(0..20)": bounded(api.Text, 0, 20), "text(0..0)": bounded(api.Text, 0, 0), "text(1024..1024)": bounded(api.Text, 1024, 1024), `text("")`: words(""), `text("a" | "b")`: words("a", "b"), `text("" | "\n" | "\"" | "é")`: words("", "\n", "\"", "é"),
		"bytes(1..2)": bounded(api.Bytes, 1, 2), `date("1970-01-01".."1970-01-02")`: day, `date("0001-01-01".."9999-12-31")`: bounded(api.Date, value.MinDate, value.MaxDate), `time("1970-01-01T00:00:00Z".."1970-01-01T00:00:00.001Z")`: instant,
		"list(0..256, bool)": list(0, 256, flag), "list(1..2, list(0..0, text(0..1)))": list(1, 2, list(0, 0, bounded(api.Text, 0, 1))),
		"record()": record(), "record(9999 a: bool)": record(required(9999, "a", flag)), "record(2 b?: int(0..1), 1 a: record())": record(optional(2, "b", bounded(api.Int, 0, 1)), required(1, "a", record())),
		"variant(1 card: int(0..9), 7 cash: bool)":                                      variant(required(1, "card", bounded(api.Int, 0, 9)), required(7, "cash", flag)),
		`record(1 id: int(0..99), 2 note?: text(0..20), 3 kind: text("a" | "b") = "a")`: record(required(1, "id", bounded(api.Int, 0, 99)), optional(2, "note", bounded(api.Text, 0, 20)), defaulted(3, "kind", words("a", "b"), value.Text("a"))),
		"record(1 a: decimal(0, 0..9) = 5d, 2 b: decimal(1, 0.0..9.9) = 0.5, 3 c: list(0..2, bool) = [true], 4 d: record(1 e: bool = false) = {e: true}, 5 f: variant(1 g: bool) = g(true), 6 h: bytes(0..1) = x\"00\", 7 i: date(\"1970-01-01\"..\"1970-01-02\") = date \"1970-01-02\")": record(defaulted(1, "a", amount(0, 0, 9), value.Decimal(5, 0)), defaulted(2, "b", amount(1, 0, 99), value.Decimal(5, 1)), defaulted(3, "c", list(0, 2, flag), value.List(value.Bool(true))), defaulted(4, "d", record(defaulted(1, "e", flag, value.Bool(false))), value.Record(at("e", value.Bool(true)))), defaulted(5, "f", variant(required(1, "g", flag)), value.Variant("g", value.Bool(true))), defaulted(6, "h", bounded(api.Bytes, 0, 1), value.Bytes("\x00")), defaulted(7, "i", day, value.Date(1))),
		"list(0..1, list(0..1, list(0..1, list(0..1, list(0..1, list(0..1, list(0..1, bool)))))))": nestedType(7, flag), "list(0..1, list(0..1, list(0..1, list(0..1, list(0..1, list(0..1, list(0..1, record())))))))": nestedType(7, record()),
	}
}

func TestP13_1Text(t *testing.T) {
	for want, v := range values() {
		if s, e := literal.Text(v); s != want || e != api.OK {
			t.Errorf("Text(%v) = %s, %d, want %s", v, s, e, want)
		}
		if v, offset, e := literal.Parse(want); !value.Equal(v, values()[want]) || offset != 0 || e != api.OK {
			t.Errorf("Parse(%s) = %v, %d, %d", want, v, offset, e)
		}
	}
	for i, c := range []struct {
		v V
		e api.Errno
	}{
		{V{Int: 1}, api.ErrKind}, {V{Kind: 11}, api.ErrKind}, {V{Kind: -1}, api.ErrKind}, {value.List(V{}), api.ErrAbsent}, {V{Kind: api.Bool, Scale: 1}, api.ErrFormat}, {V{Kind: api.Bool, Int: 2}, api.ErrRange}, {value.Int(most + 1), api.ErrRange}, {value.Decimal(1, 13), api.ErrRange}, {value.Date(value.MaxDate + 1), api.ErrRange}, {value.Time(value.MinTime - 1), api.ErrRange}, {value.Text("\xFF"), api.ErrText}, {value.Text(strings.Repeat("x", 1025)), api.ErrLong}, {value.Variant("A", value.Int(1)), api.ErrName}, {V{Kind: api.Variant, Text: "a"}, api.ErrShort}, {V{Kind: api.Record, Fields: []api.Field{at("b", value.Int(1)), at("a", value.Int(1))}}, api.ErrOrder}, {V{Kind: api.List, List: make([]V, 257)}, api.ErrLimit}, {nested(8, value.Int(1)), api.ErrDepth}, {value.List(long(65536), long(65536), value.Text("\xFF")), api.ErrText},
	} {
		if s, e := literal.Text(c.v); s != "" || e != c.e {
			t.Errorf("%d: Text = %.99q, %d, want %d", i, s, e, c.e)
		}
	}
}

func TestP13_1LongText(t *testing.T) {
	s, e := literal.Text(long(65536))
	if len(s) != 65536 || e != api.OK {
		t.Errorf("%d bytes, %d", len(s), e)
	}
	if v, offset, e := literal.Parse(s); !value.Equal(v, long(65536)) || offset != 0 || e != api.OK {
		t.Errorf("Parse: %d at %d", e, offset)
	}
	control := V{Kind: api.List, List: []V{value.Text(strings.Repeat("\x7F", 1024))}}
	for len(control.List) < 16 {
		control.List = append(control.List, control.List[0])
	}
	for _, v := range []V{long(65537), control, {Kind: api.List, List: []V{long(65536), long(65536)}}} {
		if s, e := literal.Text(v); s != "" || e != api.ErrLong {
			t.Errorf("%d bytes, %d", len(s), e)
		}
	}
}

func TestP13_1TypeText(t *testing.T) {
	for want, x := range types() {
		if s, e := literal.TypeText(x); s != want || e != api.OK {
			t.Errorf("TypeText(%v) = %s, %d, want %s", x, s, e, want)
		}
		if x, offset, e := literal.ParseType(want); !schema.Equal(x, types()[want]) || offset != 0 || e != api.OK {
			t.Errorf("ParseType(%s) = %v, %d, %d", want, x, offset, e)
		}
	}
	for i, c := range []struct {
		t T
		e api.Errno
	}{
		{T{}, api.ErrKind}, {T{Kind: 11}, api.ErrKind}, {T{Kind: api.Bool, Max: 1}, api.ErrFormat}, {bounded(api.Int, 1, 0), api.ErrRange}, {amount(13, 0, 1), api.ErrRange}, {T{Kind: api.List}, api.ErrShort}, {variant(), api.ErrShort}, {words("b", "a"), api.ErrOrder}, {words("a", "a"), api.ErrDuplicate}, {words("\xFF"), api.ErrText}, {record(required(1, "A", flag)), api.ErrName}, {record(required(0, "a", flag)), api.ErrRange}, {record(defaulted(1, "a", flag, value.Int(1))), api.ErrType}, {nestedType(8, flag), api.ErrDepth}, {list(256, 256, list(256, 256, flag)), api.ErrLimit}, {record(required(1, "a", longType(70000)), required(1, "b", flag)), api.ErrDuplicate},
	} {
		if s, e := literal.TypeText(c.t); s != "" || e != c.e {
			t.Errorf("%d: TypeText = %.99q, %d, want %d", i, s, e, c.e)
		}
	}
}

func TestP13_1LongTypeText(t *testing.T) {
	s, e := literal.TypeText(longType(65536))
	if len(s) != 65536 || e != api.OK {
		t.Errorf("%d bytes, %d", len(s), e)
	}
	if x, offset, e := literal.ParseType(s); !schema.Equal(x, longType(65536)) || offset != 0 || e != api.OK {
		t.Errorf("ParseType: %d at %d", e, offset)
	}
	// The same memory makes a text of many megabytes.
	wide := record()
	for i := range 64 {
		wide.Fields = append(wide.Fields, optional(i+1, fmt.Sprintf("f%d", i), longType(65536)))
	}
	wider := record()
	for i := range 60 {
		wider.Fields = append(wider.Fields, optional(i+1, fmt.Sprintf("f%d", i), wide))
	}
	for _, x := range []T{longType(65537), wide, wider, record(defaulted(1, "a", list(0, 99, bounded(api.Text, 0, 1024)), long(65536)))} {
		if s, e := literal.TypeText(x); s != "" || e != api.ErrLong {
			t.Errorf("%d bytes, %d", len(s), e)
		}
	}
}

type failing struct {
	s      string
	offset int
	e      api.Errno
}

// failingTokens are texts of values whose first wrong token is not right in itself.
func failingTokens() []failing {
	return []failing{
		{`"`, 0, api.ErrShort}, {` "abc`, 1, api.ErrShort}, {`"a\"`, 0, api.ErrShort}, {`"a\`, 0, api.ErrShort}, {`x"`, 0, api.ErrShort}, {` x"0`, 1, api.ErrShort}, {`x"00`, 0, api.ErrShort}, {`["a", "b]`, 6, api.ErrShort}, {"\"\xFF", 0, api.ErrShort}, {`"\u{41}`, 0, api.ErrShort},
		{"\"\x00\"", 1, api.ErrByte}, {"\"ab\x1F", 3, api.ErrByte}, {"\"\n\"", 1, api.ErrByte}, {"\"\t\"", 1, api.ErrByte}, {"\"\x7F", 1, api.ErrByte}, {"\"\xFF\n\"", 2, api.ErrByte}, {"\"\\\n\"", 1, api.ErrSyntax}, {" \"a\r\\q\"", 3, api.ErrByte}, {"\"\\q\n", 1, api.ErrSyntax},
		{`"\a"`, 1, api.ErrSyntax}, {`"\N"`, 1, api.ErrSyntax}, {`"\'"`, 1, api.ErrSyntax}, {`"\u"`, 1, api.ErrSyntax}, {`"\u`, 1, api.ErrSyntax}, {`"\u{`, 1, api.ErrSyntax}, {`"\u{1`, 1, api.ErrSyntax}, {`"\u{}"`, 1, api.ErrSyntax}, {`"\u{g}"`, 1, api.ErrSyntax}, {`"\u{41"`, 1, api.ErrSyntax}, {`"\u41"`, 1, api.ErrSyntax}, {`"\u{0000041}"`, 1, api.ErrSyntax}, {`"\u{ 41}"`, 1, api.ErrSyntax}, {`"\u{-1}"`, 1, api.ErrSyntax}, {`"\U{41}"`, 1, api.ErrSyntax}, {`"\x41"`, 1, api.ErrSyntax}, {`"ab\\\"\ "`, 7, api.ErrSyntax}, {`"\é"`, 1, api.ErrSyntax},
		{`"\u{d800}"`, 1, api.ErrText}, {`"ab\u{DFFF}`, 3, api.ErrText}, {`"\u{110000}`, 1, api.ErrText}, {`"\u{ffffff}\q"`, 1, api.ErrText}, {`"\q\u{ffffff}"`, 1, api.ErrSyntax},
		{"\"\xFF\"", 0, api.ErrText}, {" \"a\xC3\"", 1, api.ErrText}, {"\"\xC0\x80\"", 0, api.ErrText}, {"\"\xED\xA0\x80\"", 0, api.ErrText}, {"\"\xC3\\u{a9}\"", 0, api.ErrText}, {"\"\x80\"", 0, api.ErrText}, {"\"\xFF\\u{d800}\"", 2, api.ErrText},
		{`x"0"`, 3, api.ErrSyntax}, {`x"000"`, 5, api.ErrSyntax}, {`x"g"`, 2, api.ErrSyntax}, {`x"0 0"`, 3, api.ErrSyntax}, {`x" "`, 2, api.ErrSyntax}, {`x"0g`, 3, api.ErrSyntax}, {`x"00\"`, 4, api.ErrSyntax}, {"x\"00\n", 4, api.ErrSyntax}, {"x\"\xFF", 2, api.ErrSyntax}, {`x"0x00"`, 3, api.ErrSyntax}, {`x"@"`, 2, api.ErrSyntax}, {"x\"`\"", 2, api.ErrSyntax}, {`x":"`, 2, api.ErrSyntax}, {`x"/"`, 2, api.ErrSyntax}, {`x"G"`, 2, api.ErrSyntax},
		{"00", 0, api.ErrSyntax}, {" 01", 1, api.ErrSyntax}, {"-01", 0, api.ErrSyntax}, {"-0", 0, api.ErrSyntax}, {"-0d", 0, api.ErrSyntax}, {"-0.0", 0, api.ErrSyntax}, {"00.1", 0, api.ErrSyntax}, {"01d", 0, api.ErrSyntax}, {"1000000000000000", 0, api.ErrSyntax}, {"999999999999999.9", 0, api.ErrSyntax}, {"0.0000000000000", 0, api.ErrSyntax}, {"123456789012345678", 0, api.ErrLong}, {"[1, 000000000000000000]", 4, api.ErrLong}, {"1234567890.12345678", 0, api.ErrLong}, {"-12345678901234567d", 0, api.ErrLong}, {"12345678901234567d", 0, api.ErrSyntax},
		{"-", 0, api.ErrSyntax}, {"- 1", 0, api.ErrSyntax}, {"--1", 0, api.ErrSyntax}, {"-d", 0, api.ErrSyntax}, {"-.5", 0, api.ErrSyntax}, {".", 0, api.ErrSyntax}, {".5", 0, api.ErrSyntax}, {"+1", 0, api.ErrSyntax}, {"#", 0, api.ErrSyntax}, {"_a", 0, api.ErrSyntax}, {"é", 0, api.ErrSyntax}, {"\xFF", 0, api.ErrSyntax}, {"\x00", 0, api.ErrSyntax}, {"\v1", 0, api.ErrSyntax}, {"\f", 0, api.ErrSyntax}, {"\u00A01", 0, api.ErrSyntax}, {"'a'", 0, api.ErrSyntax}, {"`", 0, api.ErrSyntax}, {"@", 0, api.ErrSyntax}, {"^", 0, api.ErrSyntax}, {";", 0, api.ErrSyntax}, {"// a\n1", 0, api.ErrSyntax}, {"<", 0, api.ErrSyntax}, {"a.b", 1, api.ErrSyntax}, {"1.", 1, api.ErrSyntax}, {"1.x", 1, api.ErrSyntax}, {"1.5.5", 3, api.ErrSyntax}, {"[1; 2]", 2, api.ErrSyntax}, {"1...2", 1, api.ErrSyntax}, {"{é: 1}", 1, api.ErrSyntax}, {"{aé: 1}", 2, api.ErrSyntax},
	}
}

// misplaced are texts of values with a token that cannot stand at its place.
func misplaced() []failing {
	return []failing{
		{"", 0, api.ErrSyntax}, {" \t\r\n", 4, api.ErrSyntax}, {"[", 1, api.ErrSyntax}, {"[1", 2, api.ErrSyntax}, {"[1 ", 3, api.ErrSyntax}, {"[1,", 3, api.ErrSyntax}, {"[1, ", 4, api.ErrSyntax}, {"{", 1, api.ErrSyntax}, {"{a", 2, api.ErrSyntax}, {"{a: ", 4, api.ErrSyntax}, {"{a: 1", 5, api.ErrSyntax}, {"{a: 1,", 6, api.ErrSyntax}, {"a(", 2, api.ErrSyntax}, {"a(1", 3, api.ErrSyntax}, {"date", 4, api.ErrSyntax}, {"time ", 5, api.ErrSyntax},
		{"]", 0, api.ErrSyntax}, {"}", 0, api.ErrSyntax}, {"(1)", 0, api.ErrSyntax}, {")", 0, api.ErrSyntax}, {":", 0, api.ErrSyntax}, {",", 0, api.ErrSyntax}, {"=", 0, api.ErrSyntax}, {"?", 0, api.ErrSyntax}, {"|", 0, api.ErrSyntax}, {"..", 0, api.ErrSyntax},
		{"[,]", 1, api.ErrSyntax}, {"[1,]", 3, api.ErrSyntax}, {"[1,,2]", 3, api.ErrSyntax}, {"[1 2]", 3, api.ErrSyntax}, {"[1}", 2, api.ErrSyntax}, {"[:]", 1, api.ErrSyntax}, {"[1..2]", 2, api.ErrSyntax}, {"[(1)]", 1, api.ErrSyntax}, {"[1-2]", 2, api.ErrSyntax}, {"[a: 1]", 1, api.ErrSyntax},
		{"{,}", 1, api.ErrSyntax}, {"{1: 2}", 1, api.ErrSyntax}, {`{"a": 2}`, 1, api.ErrSyntax}, {`{x"00": 2}`, 1, api.ErrSyntax}, {"{a 1}", 3, api.ErrSyntax}, {"{a = 1}", 3, api.ErrSyntax}, {"{a: }", 4, api.ErrSyntax}, {"{a: 1,}", 6, api.ErrSyntax}, {"{a: 1 b: 2}", 6, api.ErrSyntax}, {"{a: 1]", 5, api.ErrSyntax}, {"{a?: 1}", 2, api.ErrSyntax}, {"{a}", 2, api.ErrSyntax}, {"{a(1)}", 2, api.ErrSyntax}, {"{[]: 1}", 1, api.ErrSyntax},
		{"a()", 2, api.ErrSyntax}, {"a(1, 2)", 3, api.ErrSyntax}, {"a(1]", 3, api.ErrSyntax}, {"a[1]", 0, api.ErrSyntax}, {"a(b: 1)", 2, api.ErrSyntax}, {"(a(1))", 0, api.ErrSyntax}, {"1(2)", 1, api.ErrSyntax}, {`"a"(2)`, 3, api.ErrSyntax}, {`x"00"(1)`, 5, api.ErrSyntax},
		{"a", 0, api.ErrSyntax}, {"foo", 0, api.ErrSyntax}, {"True", 0, api.ErrSyntax}, {"NULL", 0, api.ErrSyntax}, {"truee", 0, api.ErrSyntax}, {"true1", 0, api.ErrSyntax}, {"x", 0, api.ErrSyntax}, {"X\"00\"", 0, api.ErrSyntax}, {"xx\"00\"", 0, api.ErrSyntax}, {"bool", 0, api.ErrSyntax}, {"Date \"1970-01-01\"", 0, api.ErrSyntax}, {"[foo]", 1, api.ErrSyntax}, {"{a: foo}", 4, api.ErrSyntax}, {"a(b)", 2, api.ErrSyntax}, {"foo bar", 0, api.ErrSyntax}, {"foo 1", 0, api.ErrSyntax}, {"A", 0, api.ErrSyntax},
		{"date 1", 5, api.ErrSyntax}, {"date x", 5, api.ErrSyntax}, {`date x"00"`, 5, api.ErrSyntax}, {"time []", 5, api.ErrSyntax}, {"[date, 1]", 5, api.ErrSyntax}, {"{a: time}", 8, api.ErrSyntax}, {"date date", 5, api.ErrSyntax},
		{"[null]", 1, api.ErrSyntax}, {"[1, null]", 4, api.ErrSyntax}, {"{a: null}", 4, api.ErrSyntax}, {"a(null)", 2, api.ErrSyntax}, {"[null, 1", 1, api.ErrSyntax}, {"[null", 1, api.ErrSyntax},
		{"1 2", 2, api.ErrSyntax}, {"null null", 5, api.ErrSyntax}, {"null 1", 5, api.ErrSyntax}, {"null]", 4, api.ErrSyntax}, {"[] []", 3, api.ErrSyntax}, {"{}}", 2, api.ErrSyntax}, {"1,", 1, api.ErrSyntax}, {"1:", 1, api.ErrSyntax}, {"a(1))", 4, api.ErrSyntax}, {"true false", 5, api.ErrSyntax}, {`"a" "b"`, 4, api.ErrSyntax}, {"1..", 1, api.ErrSyntax}, {"1d2", 2, api.ErrSyntax}, {"1dd", 2, api.ErrSyntax}, {"1.5d", 3, api.ErrSyntax}, {"12days", 3, api.ErrSyntax}, {"1 d", 2, api.ErrSyntax}, {"1-2", 1, api.ErrSyntax}, {"1a", 1, api.ErrSyntax}, {`date "1970-01-01" x`, 18, api.ErrSyntax}, {"1 ..", 2, api.ErrSyntax},
	}
}

func checkParse(t *testing.T, l []failing) {
	t.Helper()
	for _, c := range l {
		if v, offset, e := literal.Parse(c.s); !value.IsNull(v) || offset != c.offset || e != c.e {
			t.Errorf("Parse(%.99q) = %v, %d, %d, want %d, %d", c.s, v, offset, e, c.offset, c.e)
		}
	}
}

func TestP13_2Tokens(t *testing.T)    { checkParse(t, failingTokens()) }
func TestP13_2Misplaced(t *testing.T) { checkParse(t, misplaced()) }

// wrong are texts of values with what is wrong though each token is right in itself and can stand at its place.
func wrong() []failing {
	name := strings.Repeat("n", 33)
	row := "[" + strings.Repeat("1,", 255) + "1]"
	return []failing{
		{"[[[[[[[[1]]]]]]]]", 8, api.ErrDepth}, {"[[[[[[[[ {}", 9, api.ErrDepth}, {"[[[[[[[[a(1)", 8, api.ErrDepth}, {`[[[[[[[["a"`, 8, api.ErrDepth}, {`[[[[[[[[x""`, 8, api.ErrDepth}, {"[[[[[[[[null", 8, api.ErrDepth}, {"[[[[[[[[foo", 8, api.ErrDepth}, {"[[[[[[[[[", 8, api.ErrDepth}, {"a(b(c(d(e(f(g(h(1))))))))", 16, api.ErrDepth}, {"{a:{a:{a:{a:{a:{a:{a:{a:1}}}}}}}}", 24, api.ErrDepth}, {"[[[[[[[{}, [], a(1)]]]]]]]", 17, api.ErrDepth},
		{"{A: 1}", 1, api.ErrName}, {"{a: 1, bC: 2}", 7, api.ErrName}, {"{" + name + ": 1}", 1, api.ErrName}, {"A(1)", 0, api.ErrName}, {"[aB(1)]", 1, api.ErrName}, {name + "(1)", 0, api.ErrName}, {"{a: X(1)}", 4, api.ErrName}, {"True(1)", 0, api.ErrName},
		{`date "2026-02-30"`, 5, api.ErrDate}, {`date "2026-2-3"`, 5, api.ErrSyntax}, {`date ""`, 5, api.ErrSyntax}, {`[date"0000-01-01"]`, 5, api.ErrDate}, {`date "1970-01-01T00:00:00Z"`, 5, api.ErrSyntax}, {`time "1970-01-01"`, 5, api.ErrSyntax}, {`time "1970-01-01T24:00:00Z"`, 5, api.ErrDate}, {`{a: time  "1970-01-01T00:00:00.000Z"}`, 10, api.ErrSyntax}, {`time "1970-13-01T00:00:00Z"`, 5, api.ErrDate},
		{"{a: 1, a: 2}", 7, api.ErrDuplicate}, {"{a: 1, b: 2, a: 3, b: 4}", 13, api.ErrDuplicate}, {"{b: 1, a: {b: 1, b: 2}}", 17, api.ErrDuplicate}, {"[{a: 1}, {a: 1, a: 1}]", 16, api.ErrDuplicate},
		{strings.Repeat(" ", 65537), 0, api.ErrLong}, {strings.Repeat(" ", 65536) + "1", 0, api.ErrLong}, {" #" + strings.Repeat(" ", 65535), 0, api.ErrLong}, {strings.Repeat(" ", 65536), 65536, api.ErrSyntax}, {strings.Repeat(" ", 65535) + "#", 65535, api.ErrSyntax},
		{` "` + strings.Repeat("x", 1025) + `"`, 0, api.ErrLong}, {` x"` + strings.Repeat("00", 1025) + `"`, 0, api.ErrLong}, {" [" + strings.Repeat("1,", 256) + "1]", 0, api.ErrLimit}, {"[" + strings.Repeat(row+",", 15) + "[" + strings.Repeat("1,", 239) + "1]]", 0, api.ErrLimit},
	}
}

func TestP13_2Wrong(t *testing.T) {
	checkParse(t, wrong())
	fields := ""
	for i := range 65 {
		fields += fmt.Sprintf(", f%d: 1", i)
	}
	checkParse(t, []failing{{" {" + fields[2:] + "}", 0, api.ErrLimit}})
	row := "[" + strings.Repeat("1,", 255) + "1]"
	for _, s := range []string{"[[[[[[[[]]]]]]]]", "[[[[[[[1, {}, []]]]]]]]", strings.Repeat(" ", 65535) + "1", `"` + strings.Repeat("x", 1024) + `"`, `x"` + strings.Repeat("00", 1024) + `"`, row, "[" + strings.Repeat(row+",", 15) + "[" + strings.Repeat("1,", 238-16) + "1]]", strings.Replace("{"+fields[2:]+"}", ", f64: 1", "", 1)} {
		if v, offset, e := literal.Parse(s); value.IsNull(v) || offset != 0 || e != api.OK {
			t.Errorf("Parse(%.99q) = %d, %d", s, offset, e)
		}
	}
}

// A token is read with its own errors before those that concern the one before it, and one that can begin nothing comes before one that is too deep.
func TestP13_2Order(t *testing.T) {
	checkParse(t, []failing{
		{`foo "`, 4, api.ErrShort}, {"foo #", 4, api.ErrSyntax}, {"foo 00", 4, api.ErrSyntax}, {"foo \"\n\"", 5, api.ErrByte}, {"foo 123456789012345678", 4, api.ErrLong}, {"[null \"\xFF\"", 6, api.ErrText}, {`date "x" "`, 9, api.ErrShort}, {`date "2026-02-30" x"0"`, 21, api.ErrSyntax}, {`time "x" \`, 9, api.ErrSyntax}, {`{A "`, 3, api.ErrShort}, {"{a: 1, a 00", 9, api.ErrSyntax}, {`{a: 1, a "`, 9, api.ErrShort},
		{"foo bar \"", 0, api.ErrSyntax}, {"[null, \"", 1, api.ErrSyntax}, {`date "2026-02-30" 1 "`, 5, api.ErrDate}, {`{A: "`, 1, api.ErrName}, {`{A 1`, 1, api.ErrName}, {"{A", 1, api.ErrName}, {`{a: 1, a: "`, 7, api.ErrDuplicate}, {"{a: 1, a 1", 7, api.ErrDuplicate}, {"{a: 1, a", 7, api.ErrDuplicate}, {"[date \"\", #", 6, api.ErrSyntax}, {"{A: 1, A: 2}", 1, api.ErrName}, {"{a: #, a: 2}", 4, api.ErrSyntax},
		{`A("`, 0, api.ErrName}, {"A(#", 0, api.ErrName}, {"A()", 0, api.ErrName}, {"A(", 0, api.ErrName}, {"A", 0, api.ErrSyntax}, {"A 1", 0, api.ErrSyntax}, {`A "`, 2, api.ErrShort}, {`a("`, 2, api.ErrShort}, {"date(#", 5, api.ErrSyntax}, {"date(", 5, api.ErrSyntax}, {"null()", 5, api.ErrSyntax},
		{"[[[[[[[[)", 8, api.ErrSyntax}, {"[[[[[[[[,", 8, api.ErrSyntax}, {"[[[[[[[[", 8, api.ErrSyntax}, {"[[[[[[[[..", 8, api.ErrSyntax}, {"[[[[[[[[00", 8, api.ErrSyntax}, {"[[[[[[[[\"", 8, api.ErrShort}, {"[[[[[[[[x\"0", 8, api.ErrShort}, {"[[[[[[[[#", 8, api.ErrSyntax}, {"[[[[[[[[123456789012345678", 8, api.ErrLong}, {"[[[[[[[[A(1)", 8, api.ErrDepth}, {`[[[[[[[[1 "`, 8, api.ErrDepth}, {`[[[[[[[[foo "`, 8, api.ErrDepth}, {`[[[[[[[[date "x"`, 8, api.ErrDepth}, {`[[[[[[[["a" #`, 8, api.ErrDepth}, {"a(b(c(d(e(f(g(h(1 #", 16, api.ErrDepth}, {"a(b(c(d(e(f(g(H(1 #", 14, api.ErrName}, {"a(b(c(d(e(f(g(h()", 16, api.ErrSyntax},
		{"[\"" + strings.Repeat("x", 1025) + "\", foo]", 1030, api.ErrSyntax}, {"\"" + strings.Repeat("x", 1025) + "\"\\", 1027, api.ErrSyntax}, {"[[[[[[[[[]]]]]]]] #", 8, api.ErrDepth}, {"1 \"", 2, api.ErrShort}, {"1 2 \"", 2, api.ErrSyntax}, {"1 #", 2, api.ErrSyntax}, {"[1 00]", 3, api.ErrSyntax}, {"{a: 1 \"", 6, api.ErrShort}, {"{\"", 1, api.ErrShort}, {"{123456789012345678", 1, api.ErrLong}, {"date 123456789012345678", 5, api.ErrLong}, {"]\"", 0, api.ErrSyntax},
	})
}

func TestP13_2Loose(t *testing.T) {
	for s, want := range map[string]V{
		"{b: 1, a: 2d}": value.Record(at("a", value.Decimal(2, 0)), at("b", value.Int(1))), "\t{b\r:\n1 ,a:2d} ": value.Record(at("a", value.Decimal(2, 0)), at("b", value.Int(1))), " null\n": {}, "[1,2]": value.List(value.Int(1), value.Int(2)), " [ ] ": value.List(), "{ }": value.Record(), "a ( 1 )": value.Variant("a", value.Int(1)), "true\t(1)": value.Variant("true", value.Int(1)), `null ("x")`: value.Variant("null", value.Text("x")),
		`date"1970-01-02"`: value.Date(1), "time\n\"1970-01-01T00:00:00.001Z\"": value.Time(1), `date ("a")`: value.Variant("date", value.Text("a")), `date "\u{31}970-01-01"`: value.Date(0), `{date:date"1970-01-01"}`: value.Record(at("date", value.Date(0))),
		`"\u{41}\u{e9}\u{E9}\u{10ffff}\u{10FFFF}\u{00000a}\u{0}\u{d7ff}\u{e000}"`: value.Text("Aéé\U0010FFFF\U0010FFFF\n\x00\uD7FF\uE000"), `"/'\"\\\n\r\t"`: value.Text("/'\"\\\n\r\t"), `"\\u{41}"`: value.Text(`\u{41}`), `"// a"`: value.Text("// a"), "\"\u0085\u2028\"": value.Text("\u0085\u2028"),
		`x"aBcDeF09"`: value.Bytes("\xAB\xCD\xEF\x09"), `{x:x"00",y:1}`: value.Record(at("x", value.Bytes("\x00")), at("y", value.Int(1))), `{x1: 1, x_: x(x"")}`: value.Record(at("x1", value.Int(1)), at("x_", value.Variant("x", value.Bytes("")))), "[0,-1,1.5,-0.5,0d,-1d]": value.List(value.Int(0), value.Int(-1), value.Decimal(15, 1), value.Decimal(-5, 1), value.Decimal(0, 0), value.Decimal(-1, 0)), "-12345678901234.5": value.Decimal(-123456789012345, 1),
	} {
		if v, offset, e := literal.Parse(s); !value.Equal(v, want) || offset != 0 || e != api.OK {
			t.Errorf("Parse(%q) = %v, %d, %d, want %v", s, v, offset, e, want)
		}
	}
}

func checkParseType(t *testing.T, l []failing) {
	t.Helper()
	for _, c := range l {
		if x, offset, e := literal.ParseType(c.s); !schema.Equal(x, T{}) || offset != c.offset || e != c.e {
			t.Errorf("ParseType(%.99q) = %v, %d, %d, want %d, %d", c.s, x, offset, e, c.offset, c.e)
		}
	}
}

func TestP13_3Misplaced(t *testing.T) {
	checkParseType(t, []failing{
		{"", 0, api.ErrSyntax}, {"  ", 2, api.ErrSyntax}, {"foo", 0, api.ErrSyntax}, {"Bool", 0, api.ErrSyntax}, {"null", 0, api.ErrSyntax}, {"foo(", 0, api.ErrSyntax}, {"5", 0, api.ErrSyntax}, {`"bool"`, 0, api.ErrSyntax}, {"(bool)", 0, api.ErrSyntax}, {"[bool]", 0, api.ErrSyntax}, {`x""`, 0, api.ErrSyntax}, {"bool x", 5, api.ErrSyntax}, {"bool(", 4, api.ErrSyntax}, {"bool bool", 5, api.ErrSyntax}, {"bool,", 4, api.ErrSyntax}, {"int(0..1))", 9, api.ErrSyntax}, {"#", 0, api.ErrSyntax}, {"bool #", 5, api.ErrSyntax},
		{"int", 3, api.ErrSyntax}, {"int 5", 4, api.ErrSyntax}, {"int(", 4, api.ErrSyntax}, {"int()", 4, api.ErrSyntax}, {"int(0", 5, api.ErrSyntax}, {"int(0)", 5, api.ErrSyntax}, {"int(0.1)", 4, api.ErrSyntax}, {"int(0, 1)", 5, api.ErrSyntax}, {"int(0..", 7, api.ErrSyntax}, {"int(0..)", 7, api.ErrSyntax}, {"int(..1)", 4, api.ErrSyntax}, {"int(0..1", 8, api.ErrSyntax}, {"int(0..1]", 8, api.ErrSyntax}, {"int(0...1)", 7, api.ErrSyntax}, {"int(0. .1)", 5, api.ErrSyntax}, {"int(a..1)", 4, api.ErrSyntax}, {`int("0".."1")`, 4, api.ErrSyntax}, {"int[0..1]", 3, api.ErrSyntax}, {"int(0..1..2)", 8, api.ErrSyntax},
		{"decimal(2)", 9, api.ErrSyntax}, {"decimal(0..1)", 9, api.ErrSyntax}, {"decimal(2, )", 11, api.ErrSyntax}, {"decimal(2, 1.00)", 15, api.ErrSyntax}, {"decimal(2, 1.00..)", 17, api.ErrSyntax}, {"decimal(2 1.00..2.00)", 10, api.ErrSyntax}, {"decimal(2, 1.00..2.00, 1)", 21, api.ErrSyntax}, {"decimal", 7, api.ErrSyntax},
		{"text", 4, api.ErrSyntax}, {"text()", 5, api.ErrSyntax}, {"text(0)", 6, api.ErrSyntax}, {`text("a"`, 8, api.ErrSyntax}, {`text("a",`, 8, api.ErrSyntax}, {`text("a" "b")`, 9, api.ErrSyntax}, {`text("a" | )`, 11, api.ErrSyntax}, {`text("a" | 1)`, 11, api.ErrSyntax}, {`text(| "a")`, 5, api.ErrSyntax}, {`text("a".."b")`, 8, api.ErrSyntax}, {`text(0..1 | "a")`, 10, api.ErrSyntax}, {`text(x"00")`, 5, api.ErrSyntax}, {`text(0.."a")`, 8, api.ErrSyntax}, {`bytes("a")`, 6, api.ErrSyntax}, {`bytes(x"00")`, 6, api.ErrSyntax}, {"bytes", 5, api.ErrSyntax},
		{"date", 4, api.ErrSyntax}, {"date()", 5, api.ErrSyntax}, {"date(0..1)", 5, api.ErrSyntax}, {`date("1970-01-01")`, 17, api.ErrSyntax}, {`date("1970-01-01"..)`, 19, api.ErrSyntax}, {`date "1970-01-01".."1970-01-01"`, 5, api.ErrSyntax}, {`date(date "1970-01-01"..date "1970-01-01")`, 5, api.ErrSyntax}, {`time("1970-01-01T00:00:00Z"..0)`, 29, api.ErrSyntax}, {"time(", 5, api.ErrSyntax},
		{"list", 4, api.ErrSyntax}, {"list(bool)", 5, api.ErrSyntax}, {"list(0..1)", 9, api.ErrSyntax}, {"list(0..1, )", 11, api.ErrSyntax}, {"list(0..1, bool", 15, api.ErrSyntax}, {"list(0..1, bool, bool)", 15, api.ErrSyntax}, {"list(0..1 bool)", 10, api.ErrSyntax}, {"list(0..1, 5)", 11, api.ErrSyntax}, {"list(0..1, foo)", 11, api.ErrSyntax},
		{"record", 6, api.ErrSyntax}, {"record{}", 6, api.ErrSyntax}, {"record(", 7, api.ErrSyntax}, {"record(,)", 7, api.ErrSyntax}, {"record(a: bool)", 7, api.ErrSyntax}, {"record(1", 8, api.ErrSyntax}, {"record(1: bool)", 8, api.ErrSyntax}, {"record(1 a)", 10, api.ErrSyntax}, {"record(1 a bool)", 11, api.ErrSyntax}, {"record(1 a:)", 11, api.ErrSyntax}, {"record(1 a: 5)", 12, api.ErrSyntax}, {"record(1 a: bool", 16, api.ErrSyntax}, {"record(1 a: bool,)", 17, api.ErrSyntax}, {"record(1 a: bool 2 b: bool)", 17, api.ErrSyntax}, {"record(1 a: bool =)", 18, api.ErrSyntax}, {"record(1 a: bool = )", 19, api.ErrSyntax}, {"record(1 a: bool? = true)", 16, api.ErrSyntax}, {"record(1 a??: bool)", 11, api.ErrSyntax}, {"record(1 ?a: bool)", 9, api.ErrSyntax}, {`record(1 "a": bool)`, 9, api.ErrSyntax}, {"record(1 a: bool = true false)", 24, api.ErrSyntax}, {"record(1 a: bool = true = true)", 24, api.ErrSyntax}, {"record(bool)", 7, api.ErrSyntax}, {"record(1 2 a: bool)", 9, api.ErrSyntax}, {"variant", 7, api.ErrSyntax}, {"variant(a(1))", 8, api.ErrSyntax}, {"variant(1 a(bool))", 11, api.ErrSyntax},
		{"record(1 a?: bool = true)", 18, api.ErrSyntax}, {"record(1 a?: bool =", 18, api.ErrSyntax}, {`record(1 a?: bool = "`, 18, api.ErrSyntax}, {"variant(1 a?: bool = true)", 19, api.ErrSyntax},
	})
}

func TestP13_3Wrong(t *testing.T) {
	deep := strings.Repeat("list(0..1, ", 8)
	records := strings.Repeat("record(1 a: ", 8)
	checkParseType(t, []failing{
		{"int(1.5..2)", 4, api.ErrSyntax}, {"int(1..2.0)", 7, api.ErrSyntax}, {"int(1d..2)", 4, api.ErrSyntax}, {"int(1..2d)", 7, api.ErrSyntax}, {"text(0.0..1)", 5, api.ErrSyntax}, {"text(0..1d)", 8, api.ErrSyntax}, {"bytes(0d..1)", 6, api.ErrSyntax}, {"list(0..1.0, bool)", 8, api.ErrSyntax}, {"list(0d..1, bool)", 5, api.ErrSyntax}, {"record(1.0 a: bool)", 7, api.ErrSyntax}, {"record(1d: bool)", 7, api.ErrSyntax}, {"record(1d a: bool)", 7, api.ErrSyntax}, {"variant(1 a: bool, 2d b: bool)", 19, api.ErrSyntax}, {"decimal(2.0, 1.00..2.00)", 8, api.ErrSyntax}, {"decimal(2d, 1.00..2.00)", 8, api.ErrSyntax},
		{"decimal(2, 1.0..2.00)", 11, api.ErrSyntax}, {"decimal(2, 1.00..2.0)", 17, api.ErrSyntax}, {"decimal(2, 1.000..2.00)", 11, api.ErrSyntax}, {"decimal(2, 1..2)", 11, api.ErrSyntax}, {"decimal(0, 1d..2)", 11, api.ErrSyntax}, {"decimal(0, 1..2d)", 14, api.ErrSyntax}, {"decimal(0, 1.0..2)", 11, api.ErrSyntax}, {"decimal(-1, 1..2)", 12, api.ErrSyntax}, {"decimal(13, 1.0..2.0)", 12, api.ErrSyntax}, {"decimal(13, 0.0000000000000..1.0)", 12, api.ErrSyntax},
		{"int(00..1)", 4, api.ErrSyntax}, {"int(0..-0)", 7, api.ErrSyntax}, {"int(0..123456789012345678)", 7, api.ErrLong}, {"int(0..1000000000000000)", 7, api.ErrSyntax}, {"record(01 a: bool)", 7, api.ErrSyntax}, {`text("a" | "b)`, 11, api.ErrShort}, {"text(\"\n\")", 6, api.ErrByte}, {`text("\q")`, 6, api.ErrSyntax}, {`text("\u{d800}")`, 6, api.ErrText}, {"text(\"\xFF\")", 5, api.ErrText}, {`record(1 a: bytes(0..1) = x"0")`, 29, api.ErrSyntax},
		{"record(1 A: bool)", 9, api.ErrName}, {"record(1 " + strings.Repeat("n", 33) + ": bool)", 9, api.ErrName}, {"variant(1 aB: bool)", 10, api.ErrName}, {"record(1 a: record(1 b: bool, 2 C: bool))", 32, api.ErrName}, {"record(1 a: bool, 2 a: bool)", 20, api.ErrDuplicate}, {"record(1 a: bool, 2 b: record(1 a: bool, 2 a: bool))", 43, api.ErrDuplicate}, {"variant(1 a: bool, 2 a: bool)", 21, api.ErrDuplicate}, {"record(1 a: record(1 b: bool) = {b: true, b: true})", 42, api.ErrDuplicate}, {"record(1 a: bool = A(true))", 19, api.ErrName},
		{`date("1970-02-30".."1970-01-01")`, 5, api.ErrDate}, {`date("1970-01-01".."1970-1-1")`, 19, api.ErrSyntax}, {`date(""..""`, 5, api.ErrSyntax}, {`time("1970-01-01".."1970-01-01")`, 5, api.ErrSyntax}, {`time("1970-01-01T00:00:00Z".."1970-01-01T24:00:00Z")`, 29, api.ErrDate}, {`record(1 a: bool = date "x")`, 24, api.ErrSyntax},
		{deep + "bool", 88, api.ErrDepth}, {deep + "foo", 88, api.ErrDepth}, {records + "record()", 96, api.ErrDepth}, {strings.Repeat("variant(1 a: ", 8) + "bool", 104, api.ErrDepth}, {"record(1 a: bool = [[[[[[[[1]]]]]]]])", 27, api.ErrDepth},
		{strings.Repeat(" ", 65533) + "bool", 0, api.ErrLong}, {strings.Repeat(" ", 65537), 0, api.ErrLong},
		{" int(5..1)", 0, api.ErrRange}, {" text(0..1025)", 0, api.ErrRange}, {" text(-1..5)", 0, api.ErrRange}, {" list(0..257, bool)", 0, api.ErrRange}, {" bytes(2..1)", 0, api.ErrRange}, {` date("1970-01-02".."1970-01-01")`, 0, api.ErrRange}, {" decimal(2, 1.00..0.99)", 0, api.ErrRange}, {` text("b" | "a")`, 0, api.ErrOrder}, {` text("a" | "a")`, 0, api.ErrDuplicate}, {` text("` + strings.Repeat("x", 1025) + `")`, 0, api.ErrLong}, {" variant()", 0, api.ErrShort}, {" record(0 a: bool)", 0, api.ErrRange}, {" record(10000 a: bool)", 0, api.ErrRange}, {" record(-1 a: bool)", 0, api.ErrRange}, {" record(1 a: bool, 1 b: bool)", 0, api.ErrDuplicate}, {" variant(1 a?: bool)", 0, api.ErrKind}, {" variant(1 a: bool = true)", 0, api.ErrKind}, {" record(1 a: bool = 1)", 0, api.ErrType}, {" record(1 a: bool = null)", 0, api.ErrType}, {" record(1 a: int(0..9) = 1d)", 0, api.ErrType}, {" record(1 a: list(0..1, bool) = [[[[[[[[]]]]]]]])", 0, api.ErrType}, {" list(256..256, list(256..256, bool))", 0, api.ErrLimit}, {" text(" + strings.Repeat(`"a" | `, 64) + `"b")`, 0, api.ErrLimit},
	})
}

// The order is that of P13.2.
func TestP13_3Order(t *testing.T) {
	deep := strings.Repeat("list(0..1, ", 8)
	checkParseType(t, []failing{
		{`foo "`, 4, api.ErrShort}, {"foo #", 4, api.ErrSyntax}, {`foo("`, 0, api.ErrSyntax}, {`int(1.5 "`, 8, api.ErrShort}, {`int(1.5.."`, 4, api.ErrSyntax}, {"int(1.5 2", 4, api.ErrSyntax}, {"int(1.5", 4, api.ErrSyntax}, {`record(1.5 "`, 11, api.ErrShort}, {"record(1d #", 10, api.ErrSyntax}, {`record(1d a"`, 7, api.ErrSyntax}, {`record(1d "a"`, 7, api.ErrSyntax}, {`decimal(2.5 "`, 12, api.ErrShort}, {`decimal(2, 1.0 "`, 15, api.ErrShort}, {`decimal(2, 1.0..123456789012345678`, 11, api.ErrSyntax}, {"decimal(2, 1.0 2", 11, api.ErrSyntax}, {`decimal(0, 1d "`, 14, api.ErrShort},
		{`record(1 A "`, 11, api.ErrShort}, {`record(1 A: "`, 9, api.ErrName}, {"record(1 A 1", 9, api.ErrName}, {`record(1 a: bool, 2 a "`, 22, api.ErrShort}, {`record(1 a: bool, 2 a: "`, 20, api.ErrDuplicate}, {"record(1 a: bool, 2 a 1", 20, api.ErrDuplicate}, {`date("x" "`, 9, api.ErrShort}, {`date("x".."`, 5, api.ErrSyntax}, {`date("x" 1`, 5, api.ErrSyntax}, {`date("1970-01-01".."2026-02-30" #`, 32, api.ErrSyntax}, {`date("1970-01-01".."2026-02-30"`, 19, api.ErrDate},
		{deep + "5", 88, api.ErrSyntax}, {deep, 88, api.ErrSyntax}, {deep + ")", 88, api.ErrSyntax}, {deep + `"`, 88, api.ErrShort}, {deep + "00", 88, api.ErrSyntax}, {deep + `foo "`, 88, api.ErrDepth}, {deep + "bool #", 88, api.ErrDepth}, {"bool \"", 5, api.ErrShort}, {"int(5..1) x", 10, api.ErrSyntax}, {"record(1 a: foo, 2 a: bool)", 12, api.ErrSyntax}, {`text("b" | "a") "`, 16, api.ErrShort}, {`record(1 a?: bool #`, 18, api.ErrSyntax}, {"record(1 a: bool = foo #", 23, api.ErrSyntax}, {"record(1 a: bool = foo)", 19, api.ErrSyntax}, {"record(1 a: bool = [null])", 20, api.ErrSyntax}, {"record(1 a: bool = null #", 24, api.ErrSyntax},
	})
}

func TestP13_3Loose(t *testing.T) {
	for s, want := range map[string]T{
		" bool\n": flag, "int ( -5 .. 5 )": bounded(api.Int, -5, 5), "int(0..9)\t": bounded(api.Int, 0, 9), "decimal(1,-0.5..0.5)": amount(1, -5, 5), "decimal\r(\t0 ,0..9)": amount(0, 0, 9), `text("a"|"b")`: words("a", "b"), `text("\u{41}" | "\u{e9}")`: words("A", "é"), `date("1970-01-01" .. "1970-01-02")`: bounded(api.Date, 0, 1), "record ( )": record(), "record(1a:bool)": record(required(1, "a", flag)), "record(12x ? :bool,3b:bool=true)": record(optional(12, "x", flag), defaulted(3, "b", flag, value.Bool(true))), "record(2 b: bool, 1 a: bool)": record(required(2, "b", flag), required(1, "a", flag)),
		"list(0..1,list(0..1,bool))": list(0, 1, list(0, 1, flag)), "record(1 a: record(1 c?: bool, 2 b: bool) = {c:true,b:false})": record(defaulted(1, "a", record(optional(1, "c", flag), required(2, "b", flag)), value.Record(at("b", value.Bool(false)), at("c", value.Bool(true))))), "record(1 bool: bool, 2 record: record(), 3 x: bool)": record(required(1, "bool", flag), required(2, "record", record()), required(3, "x", flag)), "variant(1null:bool)": variant(required(1, "null", flag)), "record(1 a: variant(1 b: bool) = b ( true ))": record(defaulted(1, "a", variant(required(1, "b", flag)), value.Variant("b", value.Bool(true)))),
	} {
		if x, offset, e := literal.ParseType(s); !schema.Equal(x, want) || offset != 0 || e != api.OK {
			t.Errorf("ParseType(%q) = %v, %d, %d, want %v", s, x, offset, e, want)
		}
	}
}

func TestP13_4Quote(t *testing.T) {
	for b := range 256 {
		s := string([]byte{byte(b)})
		want := s
		switch {
		case b == '"':
			want = `\"`
		case b == '\\':
			want = `\\`
		case b == 10:
			want = `\n`
		case b == 13:
			want = `\r`
		case b == 9:
			want = `\t`
		case b < 32 || b == 127:
			want = fmt.Sprintf(`\u{%x}`, b)
		}
		if got := literal.Quote("a" + s + s); got != `"a`+want+want+`"` {
			t.Errorf("Quote of the byte %d = %s", b, got)
		}
		if got := literal.QuoteBytes("a" + s + s); got != fmt.Sprintf(`x"61%02x%02x"`, b, b) {
			t.Errorf("QuoteBytes of the byte %d = %s", b, got)
		}
	}
	long := strings.Repeat("\x7F", 100000)
	if literal.Quote("") != `""` || literal.QuoteBytes("") != `x""` || literal.Quote(long) != `"`+strings.Repeat(`\u{7f}`, 100000)+`"` || literal.QuoteBytes(long) != `x"`+strings.Repeat("7f", 100000)+`"` {
		t.Error("empty or long")
	}
}
