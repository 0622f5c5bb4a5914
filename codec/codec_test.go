package codec_test

import (
	"fmt"
	"math"
	"slices"
	"strings"
	"testing"

	"manifold/api"
	"manifold/codec"
	"manifold/value"
)

type (
	T = api.Type
	V = api.Value
	F = api.TypeField
	S = api.Schema
)

type format = api.Format

var flag = T{Kind: api.Bool}

func bounded(kind, least, most int) T { return T{Kind: kind, Min: least, Max: most} }
func list(least, most int, t T) T     { return T{Kind: api.List, Min: least, Max: most, Elem: []T{t}} }
func words(l ...string) T             { return T{Kind: api.Text, Words: l} }

// record returns a record type whose fields are numbered.
func record(l ...F) T {
	for i := range l {
		l[i].Number = i + 1
	}
	return T{Kind: api.Record, Fields: l}
}

func required(name string, t T) F { return F{Name: name, Need: api.Required, Type: t} }
func optional(name string, t T) F { return F{Name: name, Need: api.Optional, Type: t} }
func defaulted(name string, t T, v V) F {
	return F{Name: name, Need: api.Defaulted, Type: t, Default: []V{v}}
}

func at(name string, v V) api.Field { return api.Field{Name: name, Value: v} }

func of(t T) S { return S{Name: "s", Version: 1, Type: t} }

func asTagged() format               { return format{Kind: api.Tagged} }
func asLiteral() format              { return format{Kind: api.Literal} }
func separated(separator int) format { return format{Kind: api.Delimited, Separator: separator} }
func columns(widths ...int) format   { return format{Kind: api.Fixed, Widths: widths} }

// item is the schema of the examples of the document, with a further field that has a default.
func item() S {
	return of(record(required("a", bounded(api.Int, 0, 99)), required("b", bounded(api.Text, 0, 3)), defaulted("c", words("gold", "tin"), value.Text("tin"))))
}

func itemOf(a int, b, c string) V {
	return value.Record(at("a", value.Int(a)), at("b", value.Text(b)), at("c", value.Text(c)))
}

// nested is a schema with a list, a record, and a variant.
func nested() S {
	return of(record(required("l", list(0, 200, bounded(api.Text, 0, 1024))), optional("r", record(defaulted("d", flag, value.Bool(true)))), optional("v", T{Kind: api.Variant, Fields: []F{{Number: 1, Name: "x", Need: api.Required, Type: flag}}})))
}

func wide(n int, t T) T {
	var l []F
	for i := range n {
		l = append(l, required(fmt.Sprintf("f%d", i), t))
	}
	return record(l...)
}

func same(n, width int) []int { return slices.Repeat([]int{width}, n) }

// badFormats are formats with their errors.
func badFormats() []struct {
	f format
	e api.Errno
} {
	return []struct {
		f format
		e api.Errno
	}{
		{format{}, api.ErrKind}, {format{Kind: 5}, api.ErrKind}, {format{Kind: -1}, api.ErrKind}, {format{Kind: math.MinInt, Separator: 1, Widths: []int{0}}, api.ErrKind}, {format{Kind: math.MaxInt}, api.ErrKind},
		{format{Kind: api.Tagged, Separator: ','}, api.ErrFormat}, {format{Kind: api.Fixed, Separator: ','}, api.ErrFormat}, {format{Kind: api.Literal, Separator: -1}, api.ErrFormat}, {format{Kind: api.Fixed, Separator: ',', Widths: same(65, 0)}, api.ErrFormat}, {format{Kind: api.Tagged, Widths: []int{1}}, api.ErrFormat}, {format{Kind: api.Literal, Widths: []int{1}}, api.ErrFormat}, {format{Kind: api.Delimited, Separator: ',', Widths: []int{1}}, api.ErrFormat}, {format{Kind: api.Delimited, Separator: 'x', Widths: []int{0}}, api.ErrFormat},
		{separated(0), api.ErrRange}, {separated('x'), api.ErrRange}, {separated('"'), api.ErrRange}, {separated(' '), api.ErrRange}, {separated(-1), api.ErrRange}, {separated(',' + 256), api.ErrRange},
		{columns(same(65, 1)...), api.ErrLimit}, {columns(same(65, 0)...), api.ErrLimit}, {columns(0), api.ErrRange}, {columns(1, 4097), api.ErrRange}, {columns(-1), api.ErrRange}, {columns(1, math.MaxInt), api.ErrRange},
	}
}

func TestP14_1Check(t *testing.T) {
	for _, f := range []format{asTagged(), asLiteral(), separated('\t'), separated(','), separated(';'), separated('|'), separated(':'), separated('^'), separated('~'), separated('#'), columns(), columns(1), columns(4096), columns(same(64, 4096)...), {Kind: api.Tagged, Widths: []int{}}, {Kind: api.Delimited, Separator: ',', Widths: []int{}}} {
		if e := codec.Check(f); e != api.OK {
			t.Errorf("Check(%v) = %d", f, e)
		}
	}
	for _, c := range badFormats() {
		if e := codec.Check(c.f); e != c.e {
			t.Errorf("Check(%v) = %d, want %d", c.f, e, c.e)
		}
	}
}

type representing struct {
	f format
	s S
	e api.Errno
}

// representations are formats and schemas, and their errors.
func representations() []representing {
	flat := of(record(required("a", flag), optional("b", bounded(api.Text, 0, 3))))
	named := func(name string, version int, x T) S { return S{Name: name, Version: version, Type: x} }
	l := []representing{
		{asTagged(), item(), api.OK}, {asLiteral(), item(), api.OK}, {separated(';'), item(), api.OK}, {columns(2, 3, 4), item(), api.OK}, {columns(4096, 3, 5), item(), api.OK}, {asTagged(), nested(), api.OK}, {asLiteral(), nested(), api.OK}, {asTagged(), of(record()), api.OK}, {asLiteral(), of(record()), api.OK}, {asTagged(), flat, api.OK}, {separated(','), flat, api.OK}, {asTagged(), named("s", 999, record()), api.OK},
		{separated(','), nested(), api.ErrType}, {separated(','), of(record()), api.ErrType}, {columns(1, 1, 1), nested(), api.ErrKind}, {columns(), of(record()), api.ErrKind}, {columns(1), of(record()), api.ErrKind},
		{columns(), item(), api.ErrShort}, {columns(2, 3), item(), api.ErrShort}, {columns(2, 3, 4, 1), item(), api.ErrLong}, {columns(1, 3, 4), item(), api.ErrLong}, {columns(2, 2, 4), item(), api.ErrLong}, {columns(1, 3), flat, api.ErrAbsent}, {columns(2), of(record(required("a", words("a ")))), api.ErrByte}, {columns(same(64, 4096)...), of(wide(64, flag)), api.ErrLimit},
		{columns(0, 3, 4), item(), api.ErrRange}, {columns(0, 3), item(), api.ErrRange},
	}
	for _, f := range []format{asTagged(), asLiteral(), separated(','), columns(1)} {
		l = append(l, representing{f, S{}, api.ErrName}, representing{f, named("S", 1, record()), api.ErrName}, representing{f, named("s", 0, record()), api.ErrRange}, representing{f, named("s", 1000, record()), api.ErrRange}, representing{f, named("s", 1, flag), api.ErrKind}, representing{f, named("s", 1, T{}), api.ErrKind}, representing{f, of(record(required("A", flag))), api.ErrName}, representing{f, of(record(required("a", bounded(api.Int, 1, 0)))), api.ErrRange}, representing{f, of(record(required("a", flag), required("a", flag))), api.ErrDuplicate}, representing{f, of(record(defaulted("a", flag, value.Int(1)))), api.ErrType})
	}
	for _, c := range badFormats() {
		l = append(l, representing{c.f, item(), c.e}, representing{c.f, S{}, c.e}, representing{c.f, nested(), c.e})
	}
	return l
}

func TestP14_2Representable(t *testing.T) {
	for i, c := range representations() {
		if e := codec.Representable(c.f, c.s); e != c.e {
			t.Errorf("%d: Representable(%v, %v) = %d, want %d", i, c.f, c.s, e, c.e)
		}
		if c.e == api.OK {
			continue
		}
		// These errors come before all others.
		s, e := codec.Encode(c.f, c.s, V{})
		v, at, f := codec.Decode(c.f, c.s, strings.Repeat("x", 65537))
		if s != "" || e != c.e || !value.IsNull(v) || at != 0 || f != c.e {
			t.Errorf("%d: Encode = %q, %d, Decode = %v, %d, %d, want %d", i, s, e, v, at, f, c.e)
		}
		s, at, e = codec.Convert(c.f, format{}, c.s, "x")
		if n, is := codec.Detect([]format{c.f}, c.s, ""); s != "" || at != 0 || e != c.e || n != 0 || is {
			t.Errorf("%d: Convert = %q, %d, %d, Detect = %d, %v, want %d", i, s, at, e, n, is, c.e)
		}
	}
}

func TestP14_3Encode(t *testing.T) {
	for _, c := range []struct {
		f    format
		s    S
		v    V
		want string
	}{
		{separated(','), item(), itemOf(7, "x", "tin"), "7,x,tin"}, {separated(';'), item(), itemOf(7, ";", "gold"), `7;";";gold`}, {separated('\t'), item(), itemOf(0, "", "gold"), "0\t\"\"\tgold"}, {columns(2, 3, 4), item(), itemOf(7, "x", "tin"), " 7x  tin "}, {columns(3, 4, 4), item(), itemOf(12, "", "gold"), " 12    gold"}, {asLiteral(), item(), itemOf(7, "x", "tin"), `{a: 7, b: "x", c: "tin"}`}, {asTagged(), item(), itemOf(7, "x", "tin"), "\x03\x01\x01\x0e\x02\x02\x01x\x03\x04\x03tin"},
		{asLiteral(), nested(), value.Record(at("l", value.List(value.Text("\n"))), at("r", value.Record(at("d", value.Bool(false)))), at("v", value.Variant("x", value.Bool(true)))), `{l: ["\n"], r: {d: false}, v: x(true)}`}, {asTagged(), nested(), value.Record(at("l", value.List(value.Text("\n"))), at("v", value.Variant("x", value.Bool(true)))), "\x02\x01\x03\x01\x01\n\x03\x03\x01\x01\x01"}, {asTagged(), of(record()), value.Record(), "\x00"}, {asLiteral(), of(record()), value.Record(), "{}"},
	} {
		if s, e := codec.Encode(c.f, c.s, c.v); s != c.want || e != api.OK {
			t.Errorf("Encode(%v, %v) = %q, %d, want %q", c.f, c.v, s, e, c.want)
		}
		if v, at, e := codec.Decode(c.f, c.s, c.want); !value.Equal(v, c.v) || at != 0 || e != api.OK {
			t.Errorf("Decode(%v, %q) = %v, %d, %d, want %v", c.f, c.want, v, at, e, c.v)
		}
	}
	for i, v := range []V{{}, value.Int(7), value.List(), value.Record(), itemOf(100, "x", "tin"), itemOf(7, "xxxx", "tin"), itemOf(7, "x", "lead"), itemOf(7, "\xFF", "tin"), value.Record(at("a", value.Int(7)), at("b", value.Text("x"))), value.Record(at("a", value.Int(7)), at("b", value.Text("x")), at("c", value.Text("tin")), at("d", value.Int(1))), {Kind: api.Record, Fields: []api.Field{at("b", value.Text("x")), at("a", value.Int(7)), at("c", value.Text("tin"))}}, itemOf(100, " ", "tin")} {
		for _, f := range []format{asTagged(), asLiteral(), separated(','), columns(2, 3, 4)} {
			if s, e := codec.Encode(f, item(), v); s != "" || e != api.ErrType {
				t.Errorf("%d: Encode(%v) = %q, %d", i, f, s, e)
			}
		}
	}
	for _, b := range []string{"x ", "\n", " "} {
		if s, e := codec.Encode(columns(2, 3, 4), item(), itemOf(7, b, "tin")); s != "" || e != api.ErrByte {
			t.Errorf("Encode of %q = %q, %d", b, s, e)
		}
	}
}

// texts returns a message of nested with 64 texts, the last one of which has another number of bytes.
func texts(size, last int) V {
	var l []V
	for range 63 {
		l = append(l, value.Text(strings.Repeat("x", size)))
	}
	return value.Record(at("l", value.List(append(l, value.Text(strings.Repeat("x", last)))...)))
}

func TestP14_3Long(t *testing.T) {
	cells := of(wide(64, bounded(api.Text, 0, 1024)))
	row := func(size, last int) V {
		v := texts(size, last)
		var l []api.Field
		for i, x := range v.Fields[0].Value.List {
			l = append(l, at(fmt.Sprintf("f%d", i), x))
		}
		return value.Record(l...)
	}
	for _, c := range []struct {
		f    format
		s    S
		v    V
		size int
	}{
		// 6 bytes, 2 for the length of each text, and the texts.
		{asTagged(), nested(), texts(1022, 1016), 65536}, {asTagged(), nested(), texts(1022, 1017), 0}, {asTagged(), nested(), texts(1024, 1024), 0},
		// 7 bytes, 2 quotation marks for each text, 2 bytes between two of them, and the texts.
		{asLiteral(), nested(), texts(1020, 1015), 65536}, {asLiteral(), nested(), texts(1020, 1016), 0}, {asLiteral(), nested(), texts(1024, 1024), 0},
		// A separator between each two texts.
		{separated(','), cells, row(1023, 1024), 65536}, {separated(','), cells, row(1024, 962), 0}, {separated(','), cells, row(1024, 1024), 0}, {columns(same(64, 1024)...), cells, row(1024, 1024), 65536},
	} {
		s, e := codec.Encode(c.f, c.s, c.v)
		if len(s) != c.size || (e == api.OK) != (c.size > 0) || e != api.OK && e != api.ErrLong {
			t.Errorf("%d: %d bytes, %d, want %d", c.f.Kind, len(s), e, c.size)
		}
		if e != api.OK {
			continue
		}
		if v, at, e := codec.Decode(c.f, c.s, s); !value.Equal(v, c.v) || at != 0 || e != api.OK {
			t.Errorf("%d: Decode = %d at %d", c.f.Kind, e, at)
		}
	}
}

func TestP14_4Decode(t *testing.T) {
	for _, c := range []struct {
		f    format
		data string
		v    V
	}{
		{separated(','), "7,x,", itemOf(7, "x", "tin")}, {separated(','), `"7","x","gold"`, itemOf(7, "x", "gold")}, {columns(2, 3, 4), " 7x      ", itemOf(7, "x", "tin")}, {asLiteral(), `{b:"x",a:7}`, itemOf(7, "x", "tin")}, {asLiteral(), " { c : \"gold\" , b : \"\\u{78}\" , a : 7 } ", itemOf(7, "x", "gold")}, {asTagged(), "\x02\x01\x01\x0e\x02\x02\x01x", itemOf(7, "x", "tin")}, {asTagged(), "\x03\x01\x01\x0e\x02\x02\x01x\x09\x01?", itemOf(7, "x", "tin")},
	} {
		if v, at, e := codec.Decode(c.f, item(), c.data); !value.Equal(v, c.v) || at != 0 || e != api.OK {
			t.Errorf("Decode(%v, %q) = %v, %d, %d, want %v", c.f, c.data, v, at, e, c.v)
		}
	}
	for _, c := range []struct {
		f    format
		data string
		at   int
		e    api.Errno
	}{
		{separated(','), "", 0, api.ErrShort}, {separated(','), "7,x", 3, api.ErrShort}, {separated(','), "7,x,tin,", 8, api.ErrField}, {separated(','), "7,xxxx,", 2, api.ErrType}, {separated(','), "7,x,x", 4, api.ErrType}, {separated(','), ",x,", 0, api.ErrAbsent}, {separated(','), `7,x"`, 3, api.ErrByte}, {separated(','), `7,"x"x`, 5, api.ErrSyntax}, {separated(','), `7,"x`, 4, api.ErrTruncated}, {separated(','), "x,x,", 0, api.ErrSyntax}, {separated(','), strings.Repeat("x", 65537), 0, api.ErrLong},
		{columns(2, 3, 4), "", 0, api.ErrShort}, {columns(2, 3, 4), " 7x  tin", 8, api.ErrShort}, {columns(2, 3, 4), " 7x  tin  ", 9, api.ErrLong}, {columns(2, 3, 4), "07x  tin ", 0, api.ErrSyntax}, {columns(2, 3, 4), " 7\xFF  tin ", 2, api.ErrText}, {columns(2, 3, 4), " 7x  lead", 5, api.ErrType}, {columns(2, 3, 4), "  x  tin ", 0, api.ErrAbsent}, {columns(2, 3, 4), strings.Repeat("x", 65537), 0, api.ErrLong}, {columns(2, 3, 4), strings.Repeat("x", 65536), 9, api.ErrLong},
		{asLiteral(), "", 0, api.ErrSyntax}, {asLiteral(), "7,x", 1, api.ErrSyntax}, {asLiteral(), `{a: 7, b: "`, 10, api.ErrShort}, {asLiteral(), `{a: 7, a: 8}`, 7, api.ErrDuplicate}, {asLiteral(), " {a: 7}", 0, api.ErrType}, {asLiteral(), " null", 0, api.ErrType}, {asLiteral(), "7", 0, api.ErrType}, {asLiteral(), ` {a: 100, b: "x"}`, 0, api.ErrType}, {asLiteral(), ` {a: 7, b: "x", d: 1}`, 0, api.ErrType}, {asLiteral(), " [" + strings.Repeat("1,", 256) + "1]", 0, api.ErrLimit}, {asLiteral(), " [[[[[[[[1]]]]]]]]", 9, api.ErrDepth}, {asLiteral(), strings.Repeat(" ", 65537), 0, api.ErrLong}, {asLiteral(), strings.Repeat(" ", 65536), 65536, api.ErrSyntax},
		{asTagged(), "", 0, api.ErrTruncated}, {asTagged(), "\x00", 1, api.ErrAbsent}, {asTagged(), "\x01\x01\x01\x0e\x00", 4, api.ErrAbsent}, {asTagged(), "\x02\x01\x01\x0e\x02\x02\x01x\x00", 8, api.ErrLong}, {asTagged(), "\x02\x01\x02\xc8\x01\x02\x02\x01x", 3, api.ErrType}, {asTagged(), strings.Repeat("\x00", 65537), 0, api.ErrLong},
	} {
		if v, at, e := codec.Decode(c.f, item(), c.data); !value.IsNull(v) || at != c.at || e != c.e {
			t.Errorf("Decode(%v, %.99q) = %v, %d, %d, want %d, %d", c.f, c.data, v, at, e, c.at, c.e)
		}
	}
}

// A few bytes can have defaults of too many values.
func TestP14_4Limit(t *testing.T) {
	var full []V
	for range 99 {
		full = append(full, value.Bool(true))
	}
	s := of(record(required("l", list(0, 256, record(defaulted("d", list(0, 99, flag), V{Kind: api.List, List: full}))))))
	for _, c := range []struct {
		n int
		e api.Errno
	}{{40, api.OK}, {41, api.ErrLimit}} {
		// Each element consists of 101 values, and the others are two.
		text := "{l: [" + strings.Repeat("{}, ", c.n-1) + "{}]}"
		v, at, e := codec.Decode(asLiteral(), s, text)
		if at != 0 || e != c.e || (e == api.OK) != (value.Size(v) == 2+101*c.n) || e != api.OK && !value.IsNull(v) {
			t.Errorf("Decode of %d: %d values, %d, %d", c.n, value.Size(v), at, e)
		}
		data := "\x01\x01" + string(rune(1+c.n)) + string(rune(c.n)) + strings.Repeat("\x00", c.n)
		w, at, e := codec.Decode(asTagged(), s, data)
		if at != 0 || e != c.e || !value.Equal(v, w) {
			t.Errorf("Decode of %d: %d values, %d, %d", c.n, value.Size(w), at, e)
		}
	}
}

func TestP14_5Convert(t *testing.T) {
	l := []struct {
		f    format
		data string
	}{{separated(','), "7,x,tin"}, {separated(';'), "7;x;tin"}, {columns(2, 3, 4), " 7x  tin "}, {asLiteral(), `{a: 7, b: "x", c: "tin"}`}, {asTagged(), "\x03\x01\x01\x0e\x02\x02\x01x\x03\x04\x03tin"}}
	for _, from := range l {
		for _, to := range l {
			if s, at, e := codec.Convert(from.f, to.f, item(), from.data); s != to.data || at != 0 || e != api.OK {
				t.Errorf("Convert(%v, %v) = %q, %d, %d", from.f, to.f, s, at, e)
			}
		}
	}
	for _, c := range []struct {
		from, to format
		data     string
		at       int
		e        api.Errno
	}{
		{separated(','), asLiteral(), "7,xxxx,tin", 2, api.ErrType}, {asLiteral(), separated(','), "{a: 7, b}", 8, api.ErrSyntax}, {separated(','), format{}, "7,xxxx,tin", 2, api.ErrType}, {format{}, separated(0), "7,x,tin", 0, api.ErrKind}, {separated(0), format{}, "7,x,tin", 0, api.ErrRange},
		{separated(','), format{}, "7,x,tin", 0, api.ErrKind}, {separated(','), separated('x'), "7,x,tin", 0, api.ErrRange}, {separated(','), columns(2, 3), "7,x,tin", 0, api.ErrShort}, {separated(','), columns(2, 3, 4), "7,x ,tin", 0, api.ErrByte}, {asLiteral(), columns(2, 3, 4), `{a: 7, b: "\n"}`, 0, api.ErrByte},
	} {
		if s, at, e := codec.Convert(c.from, c.to, item(), c.data); s != "" || at != c.at || e != c.e {
			t.Errorf("Convert(%v, %v, %q) = %q, %d, %d, want %d, %d", c.from, c.to, c.data, s, at, e, c.at, c.e)
		}
	}
	// In the literal, each of these bytes has six.
	controls, _ := codec.Encode(asTagged(), nested(), value.Record(at("l", value.List(slices.Repeat([]V{value.Text(strings.Repeat("\x7F", 1000))}, 11)...))))
	if s, at, e := codec.Convert(asTagged(), asLiteral(), nested(), controls); len(controls) < 11000 || s != "" || at != 0 || e != api.ErrLong {
		t.Errorf("Convert = %d bytes, %d, %d", len(s), at, e)
	}
}

func TestP14_6Detect(t *testing.T) {
	for _, c := range []struct {
		l    []format
		data string
		n    int
		is   bool
	}{
		{nil, "7,x,tin", 0, false}, {[]format{separated(',')}, "7,x,tin", 0, true}, {[]format{asLiteral(), asTagged(), separated(';'), separated(',')}, "7,x,tin", 3, true}, {[]format{asLiteral(), separated(',')}, "7;x;tin", 0, false}, {[]format{{}, separated(0), columns(1), asLiteral()}, `{a: 7, b: "x"}`, 3, true}, {[]format{separated(','), asLiteral(), asLiteral()}, `{a: 7, b: "x"}`, 1, true}, {[]format{columns(2, 3, 4), columns(2, 4, 4), columns(3, 3, 4)}, " 7 x  gold", 1, true}, {[]format{columns(3, 3, 4), columns(2, 4, 4)}, "  7x  gold", 0, true}, {[]format{{}, {}}, "7,x,tin", 0, false}, {[]format{separated(',')}, strings.Repeat("7", 65537), 0, false},
	} {
		if n, is := codec.Detect(c.l, item(), c.data); n != c.n || is != c.is {
			t.Errorf("Detect(%v, %.99q) = %d, %v, want %d, %v", c.l, c.data, n, is, c.n, c.is)
		}
	}
}

func TestP14_6Usual(t *testing.T) {
	optionalEmpty := of(record(optional("a", bounded(api.Text, 0, 3))))
	for _, c := range []struct {
		kind int
		s    S
		want format
		e    api.Errno
	}{
		{api.Tagged, item(), asTagged(), api.OK}, {api.Literal, item(), asLiteral(), api.OK}, {api.Delimited, item(), separated(','), api.OK}, {api.Fixed, item(), columns(2, 3, 4), api.OK}, {api.Tagged, nested(), asTagged(), api.OK}, {api.Literal, nested(), asLiteral(), api.OK}, {api.Delimited, optionalEmpty, separated(','), api.OK}, {api.Fixed, of(wide(64, bounded(api.Text, 0, 1024))), columns(same(64, 1024)...), api.OK},
		{0, item(), format{}, api.ErrKind}, {5, item(), format{}, api.ErrKind}, {-1, S{}, format{}, api.ErrKind}, {0, S{}, format{}, api.ErrKind},
		{api.Tagged, S{}, format{}, api.ErrName}, {api.Fixed, S{}, format{}, api.ErrName}, {api.Fixed, S{Name: "s", Type: flag}, format{}, api.ErrRange}, {api.Literal, S{Name: "s", Version: 1000, Type: item().Type}, format{}, api.ErrRange}, {api.Delimited, S{Name: "s", Version: 1, Type: flag}, format{}, api.ErrKind}, {api.Fixed, S{Name: "s", Version: 1, Type: flag}, format{}, api.ErrKind}, {api.Fixed, of(record(required("a", T{Kind: api.List}))), format{}, api.ErrShort},
		{api.Delimited, nested(), format{}, api.ErrType}, {api.Fixed, nested(), format{}, api.ErrKind}, {api.Fixed, of(record()), format{}, api.ErrKind}, {api.Delimited, of(record()), format{}, api.ErrType}, {api.Fixed, optionalEmpty, format{}, api.ErrAbsent}, {api.Fixed, of(record(required("a", words("a ")))), format{}, api.ErrByte}, {api.Fixed, of(wide(64, bounded(api.Bytes, 0, 1024))), format{}, api.ErrLimit},
	} {
		if f, e := codec.Usual(c.kind, c.s); !codec.Equal(f, c.want) || f.Kind != c.want.Kind || e != c.e {
			t.Errorf("Usual(%d, %v) = %v, %d, want %v, %d", c.kind, c.s, f, e, c.want, c.e)
		}
	}
	f, _ := codec.Usual(api.Fixed, item())
	f.Widths[0] = 0
	if f, _ := codec.Usual(api.Fixed, item()); !codec.Equal(f, columns(2, 3, 4)) {
		t.Error("the formats of two calls share memory")
	}
}

func TestP14_7Names(t *testing.T) {
	for kind, want := range map[int]string{api.Tagged: "tagged", api.Delimited: "delimited", api.Fixed: "fixed", api.Literal: "literal"} {
		if s, e := codec.Name(kind); s != want || e != api.OK {
			t.Errorf("Name(%d) = %q, %d", kind, s, e)
		}
		if k, e := codec.Find(want); k != kind || e != api.OK {
			t.Errorf("Find(%q) = %d, %d", want, k, e)
		}
	}
	for _, kind := range []int{0, 5, -1, math.MinInt, math.MaxInt} {
		if s, e := codec.Name(kind); s != "" || e != api.ErrKind {
			t.Errorf("Name(%d) = %q, %d", kind, s, e)
		}
	}
	for _, s := range []string{"", "Tagged", "tag", "fixed ", "literals", "json"} {
		if k, e := codec.Find(s); k != 0 || e != api.ErrNotFound {
			t.Errorf("Find(%q) = %d, %d", s, k, e)
		}
	}
}

func TestP14_7Equal(t *testing.T) {
	l := []format{{}, asTagged(), asLiteral(), separated(','), separated(';'), columns(), columns(1), columns(2), columns(1, 2), columns(2, 1), {Widths: []int{1}}, {Separator: ','}, {Kind: 9, Separator: -1, Widths: []int{-1}}}
	for i, a := range l {
		for j, b := range l {
			b.Widths = slices.Clone(b.Widths)
			if codec.Equal(a, b) != (i == j) {
				t.Errorf("Equal(%v, %v)", a, b)
			}
		}
	}
	if !codec.Equal(format{Kind: api.Fixed, Widths: []int{}}, columns()) || !codec.Equal(columns(), format{Kind: api.Fixed, Widths: []int{}}) {
		t.Error("nil and empty lists differ")
	}
}
