package fixedwidth_test

import (
	"math"
	"slices"
	"strings"
	"testing"

	"manifold/api"
	"manifold/fixedwidth"
	"manifold/schema"
	"manifold/value"
)

type (
	T = api.Type
	V = api.Value
	F = api.TypeField
)

const most = api.MaxNumber

var (
	flag    = T{Kind: api.Bool}
	day     = bounded(api.Date, value.MinDate, value.MaxDate)
	instant = bounded(api.Time, value.MinTime, value.MaxTime)
)

func bounded(kind, least, most int) T { return T{Kind: kind, Min: least, Max: most} }
func number(least, most int) T        { return bounded(api.Int, least, most) }
func text(least, most int) T          { return bounded(api.Text, least, most) }
func bytes(least, most int) T         { return bounded(api.Bytes, least, most) }
func amount(s, least, most int) T     { return T{Kind: api.Decimal, Scale: s, Min: least, Max: most} }
func words(l ...string) T             { return T{Kind: api.Text, Words: l} }

// record returns a record type whose fields are numbered.
func record(l ...F) T {
	for i := range l {
		l[i].Number = i + 1
	}
	return T{Kind: api.Record, Fields: l}
}

func required(name string, t T) F { return F{Name: name, Need: api.Required, Type: t} }
func optional(name string, t T) F { return F{Name: name, Need: api.Optional, Type: t} }
func defaulted(name string, t T, v V) F {
	return F{Name: name, Need: api.Defaulted, Type: t, Default: []V{v}}
}

func at(name string, v V) api.Field { return api.Field{Name: name, Value: v} }

// alone returns a record type with the only field a, and only a value of such a type.
func alone(t T) T { return record(required("a", t)) }
func only(v V) V  { return value.Record(at("a", v)) }

// wide returns a record type with a number of fields of a type, and widths that are all the same.
func wide(n int, t T) T {
	var l []F
	for i := range n {
		l = append(l, required("f"+string(rune('a'+i/26))+string(rune('a'+i%26)), t))
	}
	return record(l...)
}

func same(n, width int) []int { return slices.Repeat([]int{width}, n) }

// order is the type of the examples of the document.
func order() T {
	return record(required("id", number(0, 999)), optional("name", text(1, 5)), required("day", bounded(api.Date, 0, 30000)))
}

// wrong are types that are not valid, with their errors.
func wrong() map[api.Errno]T {
	return map[api.Errno]T{
		api.ErrKind: {}, api.ErrFormat: {Kind: api.Bool, Max: 1}, api.ErrRange: number(9, 0), api.ErrDuplicate: words("a", "a"), api.ErrOrder: words("b", "a"), api.ErrLong: words(strings.Repeat("x", 1025)), api.ErrText: words("\xFF"), api.ErrShort: {Kind: api.List},
		api.ErrName: record(required("A", flag)), api.ErrLimit: wide(65, flag), api.ErrType: record(defaulted("a", flag, value.Int(0))),
	}
}

// notScalar are valid types of no scalar kind.
func notScalar() []T {
	return []T{{Kind: api.List, Max: 9, Elem: []T{flag}}, record(), alone(flag), {Kind: api.Variant, Fields: alone(flag).Fields}}
}

func TestP12_1Width(t *testing.T) {
	for _, c := range []struct {
		t    T
		want int
	}{
		{flag, 1}, {day, 10}, {bounded(api.Date, 0, 0), 10}, {instant, 24}, {bounded(api.Time, 0, 0), 24},
		{number(0, 0), 1}, {number(0, 9), 1}, {number(0, 10), 2}, {number(-1, 9), 2}, {number(-9, 100), 3}, {number(-100, 9), 4}, {number(-100, -9), 4}, {number(5, 999), 3}, {number(-most, most), 16}, {number(0, most), 15},
		{amount(0, -5, 10), 2}, {amount(2, 0, 0), 4}, {amount(2, -1, 1), 5}, {amount(2, -500, 99), 5}, {amount(2, -500, 100000), 7}, {amount(12, 0, most), 16}, {amount(12, -most, most), 17}, {amount(12, -1, 0), 15}, {amount(1, 95, 105), 4},
		{text(0, 0), 1}, {text(0, 1), 1}, {text(1, 5), 5}, {text(0, 1024), 1024}, {words(""), 1}, {words("a", "bcd", "ef"), 3}, {words("", "x"), 1}, {words("é", "€"), 3}, {words("a "), 2},
		{bytes(0, 0), 1}, {bytes(0, 1), 2}, {bytes(3, 3), 6}, {bytes(0, 1024), 2048},
	} {
		if n, e := fixedwidth.Width(c.t); n != c.want || e != api.OK {
			t.Errorf("Width(%v) = %d, %d, want %d", c.t, n, e, c.want)
		}
		if l, e := fixedwidth.Widths(record(required("b", c.t), required("a", flag), required("c", c.t))); !slices.Equal(l, []int{c.want, 1, c.want}) || e != api.OK {
			t.Errorf("Widths of %v = %v, %d, want %d", c.t, l, e, c.want)
		}
	}
	for want, x := range wrong() {
		if n, e := fixedwidth.Width(x); n != 0 || e != want {
			t.Errorf("Width(%v) = %d, %d, want %d", x, n, e, want)
		}
	}
	for _, x := range notScalar() {
		if n, e := fixedwidth.Width(x); n != 0 || e != api.ErrKind {
			t.Errorf("Width(%v) = %d, %d", x, n, e)
		}
	}
}

func TestP12_1Widths(t *testing.T) {
	if l, e := fixedwidth.Widths(order()); !slices.Equal(l, []int{3, 5, 10}) || e != api.OK {
		t.Errorf("Widths = %v, %d", l, e)
	}
	if l, e := fixedwidth.Widths(wide(64, flag)); !slices.Equal(l, same(64, 1)) || e != api.OK {
		t.Errorf("Widths of 64 fields = %v, %d", l, e)
	}
	for want, x := range wrong() {
		if l, e := fixedwidth.Widths(x); len(l) != 0 || e != want {
			t.Errorf("Widths(%v) = %v, %d, want %d", x, l, e, want)
		}
	}
	for _, x := range notFlat() {
		if l, e := fixedwidth.Widths(x); len(l) != 0 || e != api.ErrKind {
			t.Errorf("Widths(%v) = %v, %d", x, l, e)
		}
	}
}

// notFlat are valid types that are not flat.
func notFlat() []T {
	l := []T{flag, number(0, 9), day, record(), {Kind: api.List, Max: 9, Elem: []T{flag}}, {Kind: api.Variant, Fields: alone(flag).Fields}}
	for _, x := range notScalar() {
		l = append(l, record(required("a", flag), optional("b", x)))
	}
	return l
}

type widthCase struct {
	t      T
	widths []int
	e      api.Errno
}

// representable are types with widths, and their errors.
func representable() []widthCase {
	two := record(required("a", text(0, 5)), optional("b", words("no", "yes")))
	maybe := func(t T) T { return record(optional("a", t)) }
	empty := func(t T) T { return record(defaulted("a", t, V{Kind: t.Kind})) }
	return []widthCase{
		{order(), []int{3, 5, 10}, api.OK}, {order(), []int{4, 4096, 11}, api.OK}, {alone(flag), []int{1}, api.OK}, {alone(bytes(0, 1024)), []int{2048}, api.OK}, {wide(64, flag), same(64, 1024), api.OK}, {wide(16, flag), same(16, 4096), api.OK},
		{order(), nil, api.ErrShort}, {order(), []int{0, 0}, api.ErrShort}, {order(), []int{3, 5}, api.ErrShort}, {order(), []int{3, 5, 10, 1}, api.ErrLong}, {order(), []int{0, 0, 0, 0}, api.ErrLong}, {alone(flag), same(65, 1), api.ErrLong},
		{order(), []int{0, 5, 10}, api.ErrRange}, {order(), []int{3, 4097, 10}, api.ErrRange}, {order(), []int{3, 5, -10}, api.ErrRange}, {order(), []int{math.MaxInt, 5, 10}, api.ErrRange}, {order(), []int{math.MinInt, 5, 10}, api.ErrRange}, {wide(64, flag), same(64, math.MaxInt), api.ErrRange},
		{order(), []int{2, 5, 10}, api.ErrLong}, {order(), []int{3, 4, 10}, api.ErrLong}, {order(), []int{3, 5, 9}, api.ErrLong}, {alone(instant), []int{23}, api.ErrLong}, {alone(bytes(0, 1024)), []int{2047}, api.ErrLong}, {alone(number(-10, 10)), []int{2}, api.ErrLong},
		{maybe(text(0, 2)), []int{2}, api.ErrAbsent}, {maybe(text(0, 0)), []int{1}, api.ErrAbsent}, {maybe(bytes(0, 2)), []int{4}, api.ErrAbsent}, {maybe(words("", "a")), []int{1}, api.ErrAbsent},
		{maybe(text(1, 2)), []int{2}, api.OK}, {maybe(bytes(1, 2)), []int{4}, api.OK}, {maybe(words("a", "b")), []int{1}, api.OK}, {maybe(number(0, 2)), []int{1}, api.OK}, {maybe(flag), []int{1}, api.OK}, {maybe(bounded(api.Date, 0, 0)), []int{10}, api.OK}, {maybe(bounded(api.Time, 0, 0)), []int{24}, api.OK}, {maybe(amount(0, 0, 9)), []int{1}, api.OK},
		{alone(text(0, 2)), []int{2}, api.OK}, {alone(bytes(0, 2)), []int{4}, api.OK}, {alone(words("")), []int{1}, api.OK}, {empty(text(0, 2)), []int{2}, api.OK}, {empty(bytes(0, 2)), []int{4}, api.OK}, {empty(words("")), []int{1}, api.OK},
		{alone(words("a ")), []int{2}, api.ErrByte}, {alone(words(" ")), []int{1}, api.ErrByte}, {alone(words("a", "a\n")), []int{2}, api.ErrByte}, {alone(words("\x00")), []int{1}, api.ErrByte}, {alone(words("\x1F")), []int{1}, api.ErrByte}, {alone(words("a\tb")), []int{3}, api.ErrByte}, {alone(words("", "a ")), []int{2}, api.ErrByte}, {maybe(words("a ", "b")), []int{2}, api.ErrByte},
		{alone(words(" a", "!", "a b", "\x7F", "é")), []int{3}, api.OK},
		{wide(64, flag), append(same(63, 1024), 1025), api.ErrLimit}, {wide(64, flag), same(64, 4096), api.ErrLimit}, {wide(17, flag), append(same(16, 4096), 1), api.ErrLimit},
		// The errors of a field come before those of later ones, in their order.
		{two, []int{0, 2}, api.ErrRange}, {two, []int{4, 0}, api.ErrLong}, {two, []int{5, 0}, api.ErrRange}, {record(optional("a", text(0, 5)), required("b", flag)), []int{4, 0}, api.ErrLong}, {record(optional("a", text(0, 5)), required("b", flag)), []int{5, 0}, api.ErrAbsent}, {record(optional("a", words("", "a ")), required("b", flag)), []int{2, 0}, api.ErrAbsent}, {record(required("a", words("", "a ")), required("b", flag)), []int{1, 0}, api.ErrLong}, {record(required("a", words("", "a ")), required("b", flag)), []int{4097, 0}, api.ErrRange}, {record(required("a", words("", "a ")), required("b", flag)), []int{2, 0}, api.ErrByte}, {wide(64, words("a ")), same(64, 4096), api.ErrByte},
	}
}

func TestP12_2Representable(t *testing.T) {
	l := representable()
	for want, x := range wrong() {
		l = append(l, widthCase{x, []int{1}, want}, widthCase{x, nil, want})
	}
	for _, x := range notFlat() {
		l = append(l, widthCase{x, []int{1}, api.ErrKind}, widthCase{x, nil, api.ErrKind})
	}
	for i, c := range l {
		if e := fixedwidth.Representable(c.t, c.widths); e != c.e {
			t.Errorf("%d: Representable(%v, %v) = %d, want %d", i, c.t, c.widths, e, c.e)
		}
		if c.e == api.OK {
			continue
		}
		s, e := fixedwidth.Encode(c.t, c.widths, V{})
		v, at, f := fixedwidth.Decode(c.t, c.widths, "x")
		if s != "" || e != c.e || !value.IsNull(v) || at != 0 || f != c.e {
			t.Errorf("%d: Encode = %q, %d; Decode = %v, %d, %d, want %d", i, s, e, v, at, f, c.e)
		}
	}
	if fixedwidth.MaxWidth != 4096 {
		t.Error("MaxWidth")
	}
}

func TestP12_3Cells(t *testing.T) {
	long := strings.Repeat("0123456789abcdef", 4096/16*64)
	for _, c := range []struct {
		line   string
		widths []int
		want   []string
	}{
		{"abcdef", []int{1, 3, 2}, []string{"a", "bcd", "ef"}}, {"", nil, nil}, {"  \n", []int{2, 1}, []string{"  ", "\n"}}, {"\xC3\xA9\x00", []int{1, 2}, []string{"\xC3", "\xA9\x00"}}, {long[:64], same(64, 1), strings.Split(long[:64], "")}, {long[:4096], []int{4096}, []string{long[:4096]}}, {long, same(64, 4096), slices.Repeat([]string{long[:4096]}, 64)},
	} {
		if l, e := fixedwidth.Cells(c.line, c.widths); !slices.Equal(l, c.want) || e != api.OK {
			t.Errorf("Cells(%.99q, %v) = %.99q, %d", c.line, c.widths, l, e)
		}
	}
	for i, c := range []struct {
		line   string
		widths []int
		e      api.Errno
	}{
		{"", []int{0}, api.ErrRange}, {"abc", []int{4, 0}, api.ErrRange}, {"abc", []int{1, 1, 0}, api.ErrRange}, {"abc", []int{4, -1}, api.ErrRange}, {"abc", []int{4097}, api.ErrRange}, {"abc", []int{math.MaxInt, math.MaxInt}, api.ErrRange}, {"abc", []int{math.MinInt}, api.ErrRange}, {long[:4097], []int{4097}, api.ErrRange}, {long[:65], same(65, 1), api.ErrRange}, {"", same(65, 1), api.ErrRange},
		{"", []int{1}, api.ErrShort}, {"abc", []int{1, 3}, api.ErrShort}, {"abc", []int{4}, api.ErrShort}, {long[:63], same(64, 1), api.ErrShort}, {long[1:], same(64, 4096), api.ErrShort},
		{"a", nil, api.ErrLong}, {"abc", []int{1, 1}, api.ErrLong}, {"abc\n", []int{3}, api.ErrLong}, {long[:65], same(64, 1), api.ErrLong}, {long + "x", same(64, 4096), api.ErrLong},
	} {
		if l, e := fixedwidth.Cells(c.line, c.widths); len(l) != 0 || e != c.e {
			t.Errorf("%d: Cells(%.99q, %v) = %.99q, %d, want %d", i, c.line, c.widths, l, e, c.e)
		}
	}
}

// cell is a value of a type, and the cell with it and a width.
type cell struct {
	t T
	v V
	s string
}

func cells() []cell {
	all := ""
	for b := 32; b < 128; b++ {
		all += string(rune(b))
	}
	return []cell{
		{flag, value.Bool(true), "T"}, {flag, value.Bool(false), "F"}, {flag, value.Bool(true), "T   "},
		{number(0, 9), value.Int(0), "0"}, {number(0, 9), value.Int(7), "   7"}, {number(-99, 9), value.Int(-9), " -9"}, {number(-99, 9), value.Int(-99), "-99"}, {number(-most, most), value.Int(-most), " -999999999999999"},
		{amount(2, -500, 99), value.Decimal(-500, 2), "-5.00"}, {amount(2, -500, 99), value.Decimal(5, 2), " 0.05"}, {amount(0, -9, 9), value.Decimal(0, 0), "   0"}, {amount(12, 0, most), value.Decimal(most, 12), "999.999999999999"},
		{text(0, 5), value.Text(""), "     "}, {text(0, 0), value.Text(""), " "}, {words("", "x"), value.Text(""), "  "}, {text(1, 5), value.Text("ab"), "ab   "}, {text(1, 5), value.Text(" a b"), " a b "}, {text(1, 5), value.Text("é€"), "é€ "}, {text(1, 5), value.Text("é€"), "é€"}, {text(1, 99), value.Text(all + "!"), all + "!  "}, {words("no", "yes"), value.Text("no"), "no "}, {words("no", "yes"), value.Text("yes"), "yes"}, {text(1, 5), value.Text("007"), "007  "}, {text(1, 1024), value.Text(strings.Repeat("x", 1024)), strings.Repeat("x", 1024) + strings.Repeat(" ", 3072)},
		{bytes(0, 2), value.Bytes(""), "    "}, {bytes(0, 2), value.Bytes("\x0A\xFF"), "0aff"}, {bytes(0, 2), value.Bytes("\x9F"), "9f  "}, {bytes(2, 2), value.Bytes("  "), "2020"}, {bytes(1, 2), value.Bytes("\x00"), "00   "},
		{day, value.Date(20773), "2026-11-16"}, {day, value.Date(value.MinDate), "0001-01-01  "}, {day, value.Date(value.MaxDate), "9999-12-31"},
		{instant, value.Time(1500), "1970-01-01T00:00:01.500Z"}, {instant, value.Time(1000), "1970-01-01T00:00:01Z    "}, {instant, value.Time(value.MinTime), "0001-01-01T00:00:00Z     "}, {instant, value.Time(value.MaxTime), "9999-12-31T23:59:59.999Z"},
	}
}

func TestP12_4Cells(t *testing.T) {
	for i, c := range cells() {
		x := alone(c.t)
		widths := []int{max(len(c.s), width(t, c.t))}
		want := c.s + strings.Repeat(" ", widths[0]-len(c.s))
		if c.t.Kind == api.Int || c.t.Kind == api.Decimal {
			want = strings.Repeat(" ", widths[0]-len(c.s)) + c.s
		}
		if s, e := fixedwidth.Encode(x, widths, only(c.v)); s != want || e != api.OK {
			t.Errorf("%d: Encode(%v) = %q, %d, want %q", i, c.v, s, e, want)
		}
		if v, at, e := fixedwidth.Decode(x, widths, want); !value.Equal(v, only(c.v)) || at != 0 || e != api.OK {
			t.Errorf("%d: Decode(%q) = %v, %d, %d, want %v", i, want, v, at, e, c.v)
		}
	}
}

func width(t *testing.T, x T) int {
	t.Helper()
	n, e := fixedwidth.Width(x)
	if e != api.OK {
		t.Errorf("Width(%v): %d", x, e)
	}
	return n
}

// row is a type with fields of all kinds, one of which is Defaulted, and widths that some of them do not need.
func row() (T, []int) {
	return record(required("b", flag), defaulted("d", amount(2, -500, 99), value.Decimal(25, 2)), required("x", bytes(0, 2)), required("t", bounded(api.Time, 0, 100000)), optional("w", words("no", "yes"))), []int{2, 6, 4, 24, 3}
}

func TestP12_4Encode(t *testing.T) {
	id, day, name := at("id", value.Int(7)), at("day", value.Date(20773)), at("name", value.Text("ab"))
	x, widths := row()
	b, d, bs, ts, w := at("b", value.Bool(true)), at("d", value.Decimal(-500, 2)), at("x", value.Bytes("\x0A\xFF")), at("t", value.Time(1500)), at("w", value.Text("no"))
	for _, c := range []struct {
		t      T
		widths []int
		v      V
		want   string
	}{
		{order(), []int{3, 5, 10}, value.Record(id, day, name), "  7ab   2026-11-16"}, {order(), []int{3, 5, 10}, value.Record(id, day), "  7     2026-11-16"}, {order(), []int{4, 6, 12}, value.Record(id, day, name), "   7ab    2026-11-16  "},
		{x, widths, value.Record(b, d, bs, ts, w), "T  -5.000aff1970-01-01T00:00:01.500Zno "}, {x, widths, value.Record(b, at("d", value.Decimal(25, 2)), at("x", value.Bytes("")), at("t", value.Time(1000))), "T   0.25    1970-01-01T00:00:01Z       "},
		{record(optional("a", number(0, 9)), optional("b", day10()), optional("c", flag)), []int{2, 10, 1}, value.Record(), strings.Repeat(" ", 13)}, {record(required("b", flag), required("a", flag)), []int{1, 2}, value.Record(at("a", value.Bool(true)), at("b", value.Bool(false))), "FT "},
	} {
		if s, e := fixedwidth.Encode(c.t, c.widths, c.v); s != c.want || e != api.OK {
			t.Errorf("Encode(%v) = %q, %d, want %q", c.v, s, e, c.want)
		}
		if v, at, e := fixedwidth.Decode(c.t, c.widths, c.want); !value.Equal(v, c.v) || at != 0 || e != api.OK {
			t.Errorf("Decode(%q) = %v, %d, %d, want %v", c.want, v, at, e, c.v)
		}
	}
	named := func(s string) V { return value.Record(id, day, at("name", value.Text(s))) }
	for i, c := range []struct {
		v V
		e api.Errno
	}{
		{V{}, api.ErrType}, {value.Record(id), api.ErrType}, {value.Record(day, name), api.ErrType}, {value.Record(id, day, at("more", value.Int(1))), api.ErrType}, {value.Record(at("id", value.Int(1000)), day), api.ErrType}, {named(""), api.ErrType}, {named("abcdef"), api.ErrType}, {named("\xFF"), api.ErrType}, {V{Kind: api.Record, Fields: []api.Field{id, day}}, api.ErrType}, {value.Record(day, at("name", value.Text("a "))), api.ErrType}, {value.Record(id, at("name", value.Text("\n")), at("day", value.Date(-1))), api.ErrType},
		{named("a "), api.ErrByte}, {named(" "), api.ErrByte}, {named("\x00"), api.ErrByte}, {named("a\nb"), api.ErrByte}, {named("\x1F"), api.ErrByte}, {named("\ta"), api.ErrByte}, {named("a\r"), api.ErrByte},
	} {
		if s, e := fixedwidth.Encode(order(), []int{3, 5, 10}, c.v); s != "" || e != c.e {
			t.Errorf("%d: Encode(%v) = %q, %d, want %d", i, c.v, s, e, c.e)
		}
	}
	// Bytes are written in digits, whatever they are.
	if s, e := fixedwidth.Encode(alone(bytes(0, 2)), []int{5}, only(value.Bytes("\n "))); s != "0a20 " || e != api.OK {
		t.Errorf("bytes: %q, %d", s, e)
	}
}

func day10() T { return bounded(api.Date, 0, 10) }

func TestP12_5Decode(t *testing.T) {
	for _, c := range []struct {
		line string
		at   int
		e    api.Errno
	}{
		{"", 0, api.ErrShort}, {"  7ab", 5, api.ErrShort}, {"  7ab   2026-11-1", 17, api.ErrShort}, {"xxx\xFF", 4, api.ErrShort}, {"  7ab   2026-11-16 ", 18, api.ErrLong}, {"  7ab   2026-11-16\r\n", 18, api.ErrLong}, {strings.Repeat("x", 99), 18, api.ErrLong},
		{"007ab   2026-11-16", 0, api.ErrSyntax}, {"7  ab   2026-11-16", 0, api.ErrSyntax}, {" 7 \xFF    2026-02-30", 0, api.ErrSyntax}, {" -0ab   2026-11-16", 0, api.ErrSyntax}, {" +7ab   2026-11-16", 0, api.ErrSyntax}, {"\t 7ab   2026-11-16", 0, api.ErrSyntax}, {" 7.ab   2026-11-16", 0, api.ErrSyntax},
		{"7.0ab   2026-11-16", 0, api.ErrType}, {" -7ab   2026-11-16", 0, api.ErrType}, {" -7\xFF    2026-02-30", 0, api.ErrType}, {"   ab   2026-11-16", 0, api.ErrAbsent}, {"   \xFF    2026-02-30", 0, api.ErrAbsent}, {strings.Repeat(" ", 18), 0, api.ErrAbsent},
		{"  7a\x01   2026-11-16", 3, api.ErrByte}, {"  7\n    2026-11-16", 3, api.ErrByte}, {"  7ab \x1F 2026-02-30", 3, api.ErrByte}, {"  7a\xFF   2026-11-16", 3, api.ErrText}, {"  7\x01\xFF   2026-11-16", 3, api.ErrText}, {"  7abc\xE2\x82\xAC2026-11-1", 3, api.ErrText}, {"  7\xED\xA0\x80  2026-11-16", 3, api.ErrText},
		{"  7ab   2026-02-30", 8, api.ErrDate}, {"  7ab   2026-13-01", 8, api.ErrDate}, {"  7ab   2026-11-1 ", 8, api.ErrSyntax}, {"  7ab    2026-11-1", 8, api.ErrSyntax}, {"  7ab   2026/11/16", 8, api.ErrSyntax}, {"  7ab   2090-01-01", 8, api.ErrType}, {"  7ab   1969-12-31", 8, api.ErrType}, {"  7ab             ", 8, api.ErrAbsent},
	} {
		if v, at, e := fixedwidth.Decode(order(), []int{3, 5, 10}, c.line); !value.IsNull(v) || at != c.at || e != c.e {
			t.Errorf("Decode(%q) = %v, %d, %d, want %d, %d", c.line, v, at, e, c.at, c.e)
		}
	}
}

func TestP12_5DecodeKinds(t *testing.T) {
	for kind, errors := range map[int]map[string]api.Errno{
		api.Bool:    {"t": api.ErrSyntax, "true": api.ErrSyntax, " T": api.ErrSyntax, "TT": api.ErrSyntax, "f": api.ErrSyntax, "1": api.ErrSyntax, "T\x00": api.ErrSyntax, "": api.ErrAbsent},
		api.Int:     {"x": api.ErrSyntax, "1 ": api.ErrSyntax, "1e1": api.ErrSyntax, "1000000000000000": api.ErrSyntax, "00000000000000000000007": api.ErrSyntax, "1.50": api.ErrType, "10": api.ErrType, "-1": api.ErrType, "": api.ErrAbsent},
		api.Decimal: {"x": api.ErrSyntax, ".50": api.ErrSyntax, "-0.00": api.ErrSyntax, "1,50": api.ErrSyntax, "1": api.ErrType, "1.5": api.ErrType, "1.500": api.ErrType, "0.10": api.ErrType, "-0.01": api.ErrType, "": api.ErrAbsent},
		api.Text:    {"a": api.ErrType, "abcd": api.ErrType, "€€": api.ErrType, "\xFFabcd": api.ErrText, "\n": api.ErrByte, "abc\n\n": api.ErrByte, "\xFF\n": api.ErrText, "": api.ErrAbsent},
		api.Bytes:   {"0": api.ErrSyntax, "0A": api.ErrSyntax, "0g": api.ErrSyntax, "g0": api.ErrSyntax, " 00": api.ErrSyntax, "0 0": api.ErrSyntax, "000": api.ErrSyntax, "00": api.ErrType, "00000000": api.ErrType, "": api.ErrAbsent},
		api.Date:    {"1970-1-1": api.ErrSyntax, " 1970-01-01": api.ErrSyntax, "1970-01-01T": api.ErrSyntax, "0000-01-01": api.ErrDate, "2023-02-29": api.ErrDate, "1970-01-11": api.ErrType, "1969-12-31": api.ErrType, "": api.ErrAbsent},
		api.Time:    {"1970-01-01": api.ErrSyntax, "1970-01-01T00:00:00.000Z": api.ErrSyntax, "1970-02-30T00:00:00Z": api.ErrDate, "1970-01-01T24:00:00Z": api.ErrDate, "1970-01-01T00:00:01Z": api.ErrType, "1969-12-31T23:59:59Z": api.ErrType, "": api.ErrAbsent},
	} {
		x := map[int]T{api.Bool: flag, api.Int: number(0, 9), api.Decimal: amount(2, 0, 9), api.Text: text(2, 3), api.Bytes: bytes(2, 3), api.Date: bounded(api.Date, 0, 9), api.Time: bounded(api.Time, 0, 9)}[kind]
		for s, want := range errors {
			spaces := strings.Repeat(" ", 30-len(s))
			cell := s + spaces
			if kind == api.Int || kind == api.Decimal {
				cell = spaces + s
			}
			wide := record(required("b", flag), required("a", x))
			if v, at, e := fixedwidth.Decode(wide, []int{3, 30}, "T  "+cell); !value.IsNull(v) || at != 3 || e != want {
				t.Errorf("Decode of %q for %v = %v, %d, %d, want %d", cell, x, v, at, e, want)
			}
		}
	}
	for _, s := range []string{"c", "", "ab", "A", "a\x00", " a"} {
		want := map[string]api.Errno{"": api.ErrAbsent, "a\x00": api.ErrByte}[s]
		if want == api.OK {
			want = api.ErrType
		}
		if v, at, e := fixedwidth.Decode(alone(words("a", "b")), []int{4}, s+strings.Repeat(" ", 4-len(s))); !value.IsNull(v) || at != 0 || e != want {
			t.Errorf("Decode of %q for words = %v, %d, %d, want %d", s, v, at, e, want)
		}
	}
}

func TestP12_5Blank(t *testing.T) {
	for i, c := range []struct {
		f    F
		want V
		e    api.Errno
	}{
		// What can be empty is empty, whether there is a default or not.
		{required("a", text(0, 5)), value.Text(""), api.OK}, {required("a", bytes(0, 5)), value.Bytes(""), api.OK}, {required("a", words("", "x")), value.Text(""), api.OK}, {defaulted("a", text(0, 5), value.Text("x")), value.Text(""), api.OK}, {defaulted("a", bytes(0, 5), value.Bytes("x")), value.Bytes(""), api.OK}, {defaulted("a", words("", "x"), value.Text("x")), value.Text(""), api.OK},
		{defaulted("a", text(1, 5), value.Text("x")), value.Text("x"), api.OK}, {defaulted("a", text(1, 5), value.Text("x ")), value.Text("x "), api.OK}, {defaulted("a", words("x", "y"), value.Text("y")), value.Text("y"), api.OK}, {defaulted("a", bytes(1, 5), value.Bytes(" ")), value.Bytes(" "), api.OK}, {defaulted("a", flag, value.Bool(true)), value.Bool(true), api.OK}, {defaulted("a", number(0, 9), value.Int(3)), value.Int(3), api.OK}, {defaulted("a", amount(1, 0, 9), value.Decimal(3, 1)), value.Decimal(3, 1), api.OK}, {defaulted("a", day, value.Date(3)), value.Date(3), api.OK}, {defaulted("a", instant, value.Time(3)), value.Time(3), api.OK},
		{optional("a", text(1, 5)), V{}, api.OK}, {optional("a", words("x", "y")), V{}, api.OK}, {optional("a", bytes(1, 5)), V{}, api.OK}, {optional("a", flag), V{}, api.OK}, {optional("a", number(0, 9)), V{}, api.OK}, {optional("a", amount(1, 0, 9)), V{}, api.OK}, {optional("a", day), V{}, api.OK}, {optional("a", instant), V{}, api.OK},
		{required("a", text(1, 5)), V{}, api.ErrAbsent}, {required("a", words("x", "y")), V{}, api.ErrAbsent}, {required("a", bytes(1, 5)), V{}, api.ErrAbsent}, {required("a", flag), V{}, api.ErrAbsent}, {required("a", number(0, 9)), V{}, api.ErrAbsent}, {required("a", amount(1, 0, 9)), V{}, api.ErrAbsent}, {required("a", day), V{}, api.ErrAbsent}, {required("a", instant), V{}, api.ErrAbsent},
	} {
		x := record(required("z", flag), c.f)
		want, wantAt := value.Record(at("z", value.Bool(true)), at("a", c.want)), 0
		if c.e != api.OK {
			want, wantAt = V{}, 2
		}
		for _, w := range []int{width(t, c.f.Type), 30} {
			if v, at, e := fixedwidth.Decode(x, []int{2, w}, "T "+strings.Repeat(" ", w)); !value.Equal(v, want) || at != wantAt || e != c.e {
				t.Errorf("%d: %v, %d, %d, want %v, %d, %d", i, v, at, e, want, wantAt, c.e)
			}
		}
	}
}

func TestP12_6NewMemory(t *testing.T) {
	x, widths := row()
	kept, keptWidths := schema.Clone(x), slices.Clone(widths)
	const line = "F           1970-01-01T00:00:01Z       "
	v, _, e := fixedwidth.Decode(x, widths, line)
	again, _, _ := fixedwidth.Decode(x, widths, line)
	for i := range v.Fields {
		v.Fields[i].Value.Int++
	}
	if l, e := fixedwidth.Widths(x); e == api.OK {
		l[0]++
	}
	if l, _ := fixedwidth.Widths(x); e != api.OK || value.Equal(v, again) || l[0] != 1 || !schema.Equal(x, kept) || !slices.Equal(widths, keptWidths) {
		t.Error("results share memory with something")
	}
}
