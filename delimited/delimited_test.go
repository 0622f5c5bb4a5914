package delimited_test

import (
	"math"
	"slices"
	"strings"
	"testing"

	"manifold/api"
	"manifold/delimited"
	"manifold/value"
)

type (
	T = api.Type
	V = api.Value
	F = api.TypeField
	C = delimited.Cell
)

const (
	separators = "\t,;|:^~#"
	most       = api.MaxBytes
)

var flag = T{Kind: api.Bool}

func bounded(kind, least, most int) T { return T{Kind: kind, Min: least, Max: most} }
func amount(s, least, most int) T     { return T{Kind: api.Decimal, Scale: s, Min: least, Max: most} }
func words(l ...string) T             { return T{Kind: api.Text, Words: l} }

// record returns a record type whose fields are numbered.
func record(l ...F) T {
	for i := range l {
		l[i].Number = i + 1
	}
	return T{Kind: api.Record, Fields: l}
}

func required(name string, t T) F { return F{Name: name, Need: api.Required, Type: t} }
func optional(name string, t T) F { return F{Name: name, Need: api.Optional, Type: t} }
func defaulted(name string, t T, v V) F {
	return F{Name: name, Need: api.Defaulted, Type: t, Default: []V{v}}
}

func at(name string, v V) api.Field { return api.Field{Name: name, Value: v} }

func bare(s string) C   { return C{Text: s} }
func quoted(s string) C { return C{Text: s, Quoted: true} }

// name returns a name for a number.
func name(i int) string { return "f" + string(rune('a'+i/26)) + string(rune('a'+i%26)) }

// wide returns a record type of a number of texts of any length.
func wide(n, need int) T {
	var l []F
	for i := range n {
		l = append(l, F{Name: name(i), Need: need, Type: bounded(api.Text, 0, 1024)})
	}
	return record(l...)
}

// notSeparators are numbers that are no separators, though some of their lowest bytes are.
func notSeparators() []int {
	l := []int{-1, math.MinInt, math.MaxInt, ',' + 256, ',' - 256, '\t' + 1<<32, ';' + 1<<16, -',', math.MinInt + ','}
	for b := range 256 {
		if strings.IndexByte(separators, byte(b)) < 0 {
			l = append(l, b)
		}
	}
	return l
}

func TestP11_1IsSeparator(t *testing.T) {
	for i := range len(separators) {
		if !delimited.IsSeparator(int(separators[i])) {
			t.Errorf("IsSeparator(%q)", separators[i])
		}
	}
	for _, n := range notSeparators() {
		if delimited.IsSeparator(n) {
			t.Errorf("IsSeparator(%d)", n)
		}
	}
	if delimited.MaxCells != 64 {
		t.Error("MaxCells")
	}
}

// lines are lines with their cells, with the separator ;.
func lines() map[string][]C {
	return map[string][]C{
		"":                             {bare("")},
		";":                            {bare(""), bare("")},
		`""`:                           {quoted("")},
		`"";`:                          {quoted(""), bare("")},
		`;""`:                          {bare(""), quoted("")},
		`""""`:                         {quoted(`"`)},
		`""""""`:                       {quoted(`""`)},
		`"""a""";"b"`:                  {quoted(`"a"`), quoted("b")},
		`a;"x;""y""";;""`:              {bare("a"), quoted(`x;"y"`), bare(""), quoted("")},
		`";";";;"`:                     {quoted(";"), quoted(";;")},
		"\"\r\n\";a":                   {quoted("\r\n"), bare("a")},
		"a,b\tc|d;x y ":                {bare("a,b\tc|d"), bare("x y ")},
		"\x00\xFF\x7F'\\;\"\xC3\x00\"": {bare("\x00\xFF\x7F'\\"), quoted("\xC3\x00")},
		"é;€":                          {bare("é"), bare("€")},
		" ;\" \"":                      {bare(" "), quoted(" ")},
		`"abc"`:                        {quoted("abc")},
		strings.Repeat(";", 63):        make([]C, 64),
		strings.Repeat("x", most):      {bare(strings.Repeat("x", most))},
		`"` + strings.Repeat(`""`, most/2-1) + `"`:                       {quoted(strings.Repeat(`"`, most/2-1))},
		strings.Repeat("x", most-3) + `;""`:                              {bare(strings.Repeat("x", most-3)), quoted("")},
		`"` + strings.Repeat(";", most-2) + `"`:                          {quoted(strings.Repeat(";", most-2))},
		strings.Repeat("a;", 62) + `a;"` + strings.Repeat(";", 99) + `"`: append(slices.Repeat([]C{bare("a")}, 63), quoted(strings.Repeat(";", 99))),
	}
}

func TestP11_1Join(t *testing.T) {
	for line, cells := range lines() {
		if s, e := delimited.Join(cells, ';'); s != line || e != api.OK {
			t.Errorf("Join(%.99v) = %.99q, %d, want %.99q", cells, s, e, line)
		}
	}
	x, long := bare("x"), strings.Repeat("x", most)
	for i, c := range []struct {
		cells     []C
		separator int
		e         api.Errno
	}{
		{nil, ',', api.ErrShort}, {[]C{}, ',', api.ErrShort}, {nil, 'a', api.ErrRange}, {[]C{x}, ' ', api.ErrRange}, {make([]C, 65), 0, api.ErrRange}, {[]C{bare("\n")}, 0, api.ErrRange},
		{make([]C, 65), ',', api.ErrLimit}, {append(make([]C, 64), bare("\n")), ',', api.ErrLimit}, {slices.Repeat([]C{bare(long)}, 65), ',', api.ErrLimit},
		{[]C{bare(`"`)}, ',', api.ErrByte}, {[]C{bare("a\"")}, ',', api.ErrByte}, {[]C{bare("\r")}, ',', api.ErrByte}, {[]C{x, bare("a\nb")}, ',', api.ErrByte}, {[]C{x, x, bare("ab,")}, ',', api.ErrByte}, {[]C{quoted(","), bare(",")}, ',', api.ErrByte}, {[]C{bare(long + "x"), bare("\n")}, ',', api.ErrByte}, {[]C{bare(long + "\n")}, ',', api.ErrByte},
		{[]C{bare(long + "x")}, ',', api.ErrLong}, {[]C{bare(long), bare("")}, ',', api.ErrLong}, {[]C{bare(""), bare(long)}, ',', api.ErrLong}, {[]C{quoted(long[1:])}, ',', api.ErrLong}, {[]C{quoted(strings.Repeat(`"`, most/2))}, ',', api.ErrLong}, {[]C{bare(long[2:]), quoted("")}, ',', api.ErrLong}, {slices.Repeat([]C{bare(long[:1024])}, 64), ',', api.ErrLong}, {slices.Repeat([]C{quoted(long)}, 64), ',', api.ErrLong},
	} {
		if s, e := delimited.Join(c.cells, c.separator); s != "" || e != c.e {
			t.Errorf("%d: %.99q, %d, want %d", i, s, e, c.e)
		}
	}
}

func TestP11_1Separators(t *testing.T) {
	for i := range len(separators) {
		separator := separators[i : i+1]
		for j := range len(separators) {
			// Only the separator of the line itself must not stand in an unquoted cell.
			other := separators[j : j+1]
			want, f := other+separator+other, api.OK
			if other == separator {
				want, f = "", api.ErrByte
			}
			if s, e := delimited.Join([]C{bare(other), bare(other)}, int(separator[0])); s != want || e != f {
				t.Errorf("Join of %q with %q = %q, %d", other, separator, s, e)
			}
			cells, at, e := delimited.Split(`"`+other+`"`+separator, int(separator[0]))
			if !slices.Equal(cells, []C{quoted(other), bare("")}) || at != 0 || e != api.OK {
				t.Errorf("Split of %q with %q = %v, %d, %d", other, separator, cells, at, e)
			}
		}
	}
	for _, n := range notSeparators() {
		if s, e := delimited.Join([]C{bare("a")}, n); s != "" || e != api.ErrRange {
			t.Errorf("Join with %d = %q, %d", n, s, e)
		}
		if l, at, e := delimited.Split("\n", n); len(l) != 0 || at != 0 || e != api.ErrRange {
			t.Errorf("Split with %d = %v, %d, %d", n, l, at, e)
		}
	}
}

func TestP11_2Split(t *testing.T) {
	for line, want := range lines() {
		if cells, at, e := delimited.Split(line, ';'); !slices.Equal(cells, want) || at != 0 || e != api.OK {
			t.Errorf("Split(%.99q) = %.99v, %d, %d, want %.99v", line, cells, at, e, want)
		}
	}
	full := strings.Repeat(",", 64)
	for _, c := range []struct {
		line string
		at   int
		e    api.Errno
	}{
		{strings.Repeat("x", most+1), 0, api.ErrLong}, {"\n" + strings.Repeat(",", most), 0, api.ErrLong}, {`"` + strings.Repeat("x", most), 0, api.ErrLong},
		{full, 64, api.ErrLimit}, {full + "\n", 64, api.ErrLimit}, {full + `"`, 64, api.ErrLimit}, {full + "x", 64, api.ErrLimit}, {strings.Repeat("ab,", 64) + "c", 192, api.ErrLimit}, {strings.Repeat(`",",`, 64), 256, api.ErrLimit}, {strings.Repeat(",", most), 64, api.ErrLimit},
		{full[1:] + "\n", 63, api.ErrByte}, {"\n" + full, 0, api.ErrByte}, {full[1:] + `"`, 64, api.ErrTruncated}, {full[1:] + `""x`, 65, api.ErrSyntax},
		{"\n", 0, api.ErrByte}, {"\r", 0, api.ErrByte}, {"a\r\n", 1, api.ErrByte}, {`a"`, 1, api.ErrByte}, {`a""`, 1, api.ErrByte}, {` "a"`, 1, api.ErrByte}, {"a,b\n", 3, api.ErrByte}, {"a,\n", 2, api.ErrByte}, {`a,b",c`, 3, api.ErrByte}, {"a\n,\"", 1, api.ErrByte},
		{`"a"b`, 3, api.ErrSyntax}, {`""a`, 2, api.ErrSyntax}, {`"a" ,b`, 3, api.ErrSyntax}, {"\"a\"\n", 3, api.ErrSyntax}, {"\"a\"\r\n", 3, api.ErrSyntax}, {`a,"b"c"`, 5, api.ErrSyntax}, {`"a"";"x,`, 6, api.ErrSyntax}, {`"";""`, 2, api.ErrSyntax}, {`"a""b"c`, 6, api.ErrSyntax}, {"\"a\"\xFF", 3, api.ErrSyntax},
		{`"`, 1, api.ErrTruncated}, {`"""`, 3, api.ErrTruncated}, {`"a`, 2, api.ErrTruncated}, {`"a""`, 4, api.ErrTruncated}, {`"a,b`, 4, api.ErrTruncated}, {"\"\r\n", 3, api.ErrTruncated}, {`a,"`, 3, api.ErrTruncated}, {`"a","b`, 6, api.ErrTruncated}, {`"` + strings.Repeat("x", most-1), most, api.ErrTruncated},
	} {
		if cells, at, e := delimited.Split(c.line, ','); len(cells) != 0 || at != c.at || e != c.e {
			t.Errorf("Split(%.99q) = %.99v, %d, %d, want %d, %d", c.line, cells, at, e, c.at, c.e)
		}
	}
}

// scalar is a value of a type with its text.
type scalar struct {
	t T
	v V
	s string
}

func scalars() []scalar {
	text, bytes, date, time := bounded(api.Text, 0, 9), bounded(api.Bytes, 0, 9), bounded(api.Date, value.MinDate, value.MaxDate), bounded(api.Time, value.MinTime, value.MaxTime)
	n, d := bounded(api.Int, -api.MaxNumber, api.MaxNumber), amount(2, -api.MaxNumber, api.MaxNumber)
	all := ""
	for b := range 256 {
		all += string([]byte{byte(b)})
	}
	return []scalar{
		{flag, value.Bool(true), "true"}, {flag, value.Bool(false), "false"},
		{n, value.Int(0), "0"}, {n, value.Int(-5), "-5"}, {n, value.Int(42), "42"}, {n, value.Int(api.MaxNumber), "999999999999999"}, {n, value.Int(-api.MaxNumber), "-999999999999999"},
		{d, value.Decimal(0, 2), "0.00"}, {d, value.Decimal(-5, 2), "-0.05"}, {d, value.Decimal(1250, 2), "12.50"}, {d, value.Decimal(-api.MaxNumber, 2), "-9999999999999.99"}, {amount(0, -9, 9), value.Decimal(-7, 0), "-7"}, {amount(12, -9, 9), value.Decimal(-7, 12), "-0.000000000007"},
		{text, value.Text(""), ""}, {text, value.Text("x,\"\n"), "x,\"\n"}, {text, value.Text("é€"), "é€"}, {text, value.Text(" a "), " a "}, {words("", "true"), value.Text("true"), "true"}, {words("", "true"), value.Text(""), ""}, {bounded(api.Text, 3, 3), value.Text("0aF"), "0aF"},
		{bytes, value.Bytes(""), ""}, {bytes, value.Bytes("\x0A\xFF"), "0aff"}, {bytes, value.Bytes("\x00\x10\x9F"), "00109f"}, {bounded(api.Bytes, 256, 256), value.Bytes(all), hexOf(all)},
		{date, value.Date(0), "1970-01-01"}, {date, value.Date(19782), "2024-02-29"}, {date, value.Date(value.MinDate), "0001-01-01"}, {date, value.Date(value.MaxDate), "9999-12-31"},
		{time, value.Time(0), "1970-01-01T00:00:00Z"}, {time, value.Time(50), "1970-01-01T00:00:00.050Z"}, {time, value.Time(-1), "1969-12-31T23:59:59.999Z"}, {time, value.Time(value.MinTime), "0001-01-01T00:00:00Z"}, {time, value.Time(value.MaxTime), "9999-12-31T23:59:59.999Z"},
	}
}

func hexOf(s string) string {
	out := ""
	for i := range len(s) {
		for _, digit := range []byte{s[i] / 16, s[i] % 16} {
			out += "0123456789abcdef"[digit : digit+1]
		}
	}
	return out
}

// notScalar are types of no scalar kind.
func notScalar() []T {
	return []T{{}, {Kind: -1}, {Kind: 11}, {Kind: math.MinInt}, {Kind: math.MaxInt}, {Kind: api.List, Max: 9, Elem: []T{flag}}, record(required("a", flag)), {Kind: api.Variant, Fields: []F{required("a", flag)}}}
}

func TestP11_3CellOf(t *testing.T) {
	for i, c := range scalars() {
		if s, e := delimited.CellOf(c.t, c.v); s != c.s || e != api.OK {
			t.Errorf("%d: CellOf(%v, %v) = %q, %d, want %q", i, c.t, c.v, s, e, c.s)
		}
	}
	for _, x := range notScalar() {
		for _, v := range []V{{}, value.Bool(true), value.List(), value.Record(at("a", value.Bool(true))), {Kind: x.Kind}} {
			if s, e := delimited.CellOf(x, v); s != "" || e != api.ErrKind {
				t.Errorf("CellOf(%v, %v) = %q, %d", x, v, s, e)
			}
		}
	}
	n := bounded(api.Int, 1, 9)
	for i, c := range []struct {
		t T
		v V
	}{
		{n, V{}}, {n, value.Int(0)}, {n, value.Int(10)}, {n, value.Text("5")}, {n, value.Decimal(5, 0)}, {n, V{Kind: api.Int, Int: 5, Scale: 1}}, {flag, V{Kind: api.Bool, Int: 2}}, {flag, value.Int(1)}, {amount(1, 0, 9), value.Decimal(5, 2)}, {amount(1, 0, 9), value.Decimal(10, 1)},
		{bounded(api.Text, 1, 2), value.Text("abc")}, {bounded(api.Text, 1, 2), value.Text("")}, {bounded(api.Text, 1, 2), value.Text("\xFF")}, {bounded(api.Text, 1, 2), value.Bytes("a")}, {words("a"), value.Text("b")}, {bounded(api.Bytes, 1, 2), value.Bytes("")}, {bounded(api.Date, 0, 9), value.Date(10)}, {bounded(api.Date, 0, 9), value.Time(5)}, {bounded(api.Time, 0, 9), value.Time(-1)},
		// These fit types that are not valid, but have no texts.
		{bounded(api.Int, math.MinInt, math.MaxInt), value.Int(api.MaxNumber + 1)}, {bounded(api.Int, math.MinInt, math.MaxInt), value.Int(math.MinInt)}, {amount(13, 0, 9), value.Decimal(5, 13)}, {amount(-1, 0, 9), value.Decimal(5, -1)}, {amount(2, math.MinInt, 0), value.Decimal(-api.MaxNumber-1, 2)},
		{bounded(api.Date, math.MinInt, math.MaxInt), value.Date(value.MaxDate + 1)}, {bounded(api.Date, math.MinInt, math.MaxInt), value.Date(value.MinDate - 1)}, {bounded(api.Time, math.MinInt, math.MaxInt), value.Time(value.MaxTime + 1)}, {bounded(api.Time, math.MinInt, math.MaxInt), value.Time(value.MinTime - 1)},
	} {
		if s, e := delimited.CellOf(c.t, c.v); s != "" || e != api.ErrType {
			t.Errorf("%d: CellOf(%v, %v) = %q, %d", i, c.t, c.v, s, e)
		}
	}
}

func TestP11_3ValueOf(t *testing.T) {
	for i, c := range scalars() {
		if v, e := delimited.ValueOf(c.t, c.s); !value.Equal(v, c.v) || e != api.OK {
			t.Errorf("%d: ValueOf(%v, %q) = %v, %d, want %v", i, c.t, c.s, v, e, c.v)
		}
	}
	for _, x := range notScalar() {
		for _, s := range []string{"", "true", "1", "[]", "\xFF"} {
			if v, e := delimited.ValueOf(x, s); !value.IsNull(v) || e != api.ErrKind {
				t.Errorf("ValueOf(%v, %q) = %v, %d", x, s, v, e)
			}
		}
	}
	wrong := map[api.Errno]map[int][]string{
		api.ErrSyntax: {
			api.Bool:    {"", "yes", "True", "TRUE", "T", "F", "1", "0", "true ", " false", "truefalse"},
			api.Int:     {"", "07", "+7", "-0", "00", "--7", " 7", "7 ", "7.", "7.0", "0.00", ".5", "1e3", "0x1", "a", "1000000000000000", "-1000000000000000", "7\n", "\xFF"},
			api.Decimal: {"", "07.00", "+7.00", "-0.00", "7.", ".50", "1,50", "0.0000000000001", "1000000000000000", "10000000000000.00", "1.5 ", "1.5.0"},
			api.Bytes:   {"0", "0A", "fF", "0g", "g0", "000", "0x00", " 00", "00 ", "0 ", "\"\"", "é", "\x00\x00"},
			api.Date:    {"", "1970-1-1", "1970-01-32", "2023-02-29", "1970-13-01", "0000-01-01", "10000-01-01", "1970-01-01T00:00:00Z", "1970-01-01 ", "0"},
			api.Time:    {"", "1970-01-01", "1970-01-01T00:00:00", "1970-01-01T00:00:00.000Z", "1970-01-01T00:00:00.05Z", "1970-01-01T24:00:00Z", "1970-01-01T00:60:00Z", "1970-02-30T00:00:00Z", "0"},
		},
		api.ErrType: {
			api.Int:     {"-1", "10", "999999999999999", "-999999999999999"},
			api.Decimal: {"1", "0", "1.5", "1.500", "0.10", "-0.01", "100", "1.000000000000"},
			api.Text:    {"abc", "\xFF", "\xED\xA0\x80", "€€", strings.Repeat("a", 9999)},
			api.Bytes:   {"000000", strings.Repeat("00", 9999)},
			api.Date:    {"1970-01-11", "1969-12-31", "0001-01-01", "9999-12-31"},
			api.Time:    {"1970-01-01T00:00:00.010Z", "1970-01-01T00:00:01Z", "1969-12-31T23:59:59.999Z"},
		},
	}
	types := map[int]T{api.Bool: flag, api.Int: bounded(api.Int, 0, 9), api.Decimal: amount(2, 0, 9), api.Text: bounded(api.Text, 0, 2), api.Bytes: bounded(api.Bytes, 0, 2), api.Date: bounded(api.Date, 0, 9), api.Time: bounded(api.Time, 0, 9)}
	for want, kinds := range wrong {
		for kind, l := range kinds {
			for _, s := range l {
				if v, e := delimited.ValueOf(types[kind], s); !value.IsNull(v) || e != want {
					t.Errorf("ValueOf(%v, %.99q) = %v, %d, want %d", types[kind], s, v, e, want)
				}
			}
		}
	}
	if v, e := delimited.ValueOf(words("a", "b"), "c"); !value.IsNull(v) || e != api.ErrType {
		t.Errorf("a text that is no word: %v, %d", v, e)
	}
}

func TestP11_4Representable(t *testing.T) {
	all := record(required("a", flag), optional("b", bounded(api.Int, 0, 9)), defaulted("c", amount(1, 0, 9), value.Decimal(1, 1)), required("d", words("", "\n")), required("e", bounded(api.Bytes, 0, 1024)), required("f", bounded(api.Date, 0, 9)), required("g", bounded(api.Time, 0, 9)), optional("h", bounded(api.Text, 0, 0)))
	for i := range len(separators) {
		for _, x := range []T{all, record(optional("a", flag)), wide(64, api.Required)} {
			if e := delimited.Representable(x, int(separators[i])); e != api.OK {
				t.Errorf("Representable(%v, %q) = %d", x, separators[i], e)
			}
		}
	}
	for _, n := range notSeparators() {
		for _, x := range []T{all, {}} {
			if e := delimited.Representable(x, n); e != api.ErrRange {
				t.Errorf("Representable(%v, %d) = %d", x, n, e)
			}
		}
	}
	twice := record(required("a", flag), required("a", flag))
	for i, x := range append(notFlat(), twice, wide(65, api.Required), record(required("A", flag)), record(required("a", bounded(api.Int, 9, 0))), record(required("a", T{})), record(F{Name: "a", Type: flag}), T{Kind: api.Record, Scale: 1, Fields: all.Fields}, record(defaulted("a", flag, value.Int(1)))) {
		if e := delimited.Representable(x, ','); e != api.ErrType {
			t.Errorf("%d: Representable(%v) = %d", i, x, e)
		}
		s, e := delimited.Encode(x, ',', value.Record())
		v, at, f := delimited.Decode(x, ',', "\n")
		if s != "" || e != api.ErrType || !value.IsNull(v) || at != 0 || f != api.ErrType {
			t.Errorf("%d: Encode = %q, %d; Decode = %v, %d, %d", i, s, e, v, at, f)
		}
	}
}

// notFlat are types that are not flat.
func notFlat() []T {
	list := T{Kind: api.List, Max: 9, Elem: []T{flag}}
	return []T{{}, flag, list, record(), record(required("a", flag), optional("b", list)), record(required("a", record(required("a", flag)))), record(required("a", T{Kind: api.Variant, Fields: []F{{Number: 1, Name: "a", Need: api.Required, Type: flag}}})), {Kind: api.Variant, Fields: []F{{Number: 1, Name: "a", Need: api.Required, Type: flag}}}}
}

// order is a type with fields of all needs, which are not in the order of names.
func order() T {
	return record(required("id", bounded(api.Int, 0, 99)), optional("name", bounded(api.Text, 0, 9)), required("due", bounded(api.Date, 0, 40000)), defaulted("kind", words("a", "b"), value.Text("a")))
}

func TestP11_5Encode(t *testing.T) {
	id, due, a, b := at("id", value.Int(7)), at("due", value.Date(19782)), at("kind", value.Text("a")), at("kind", value.Text("b"))
	named := func(s string) V { return value.Record(id, due, a, at("name", value.Text(s))) }
	times := record(required("t", bounded(api.Time, 0, 9)), optional("b", bounded(api.Bytes, 0, 9)), optional("n", amount(1, -9, 9)))
	for i, c := range []struct {
		t         T
		separator int
		v         V
		want      string
	}{
		{order(), ',', value.Record(id, due, b), "7,,2024-02-29,b"}, {order(), ',', value.Record(id, due, a), "7,,2024-02-29,a"}, {order(), '\t', named("x"), "7\tx\t2024-02-29\ta"}, {order(), ',', named(""), `7,"",2024-02-29,a`},
		{order(), ',', named("x,y"), `7,"x,y",2024-02-29,a`}, {order(), ';', named("x,y"), "7;x,y;2024-02-29;a"}, {order(), ',', named(`"`), `7,"""",2024-02-29,a`}, {order(), ',', named(`a""b`), `7,"a""""b",2024-02-29,a`}, {order(), ',', named("\r"), "7,\"\r\",2024-02-29,a"}, {order(), ',', named("a\n"), "7,\"a\n\",2024-02-29,a"}, {order(), ',', named(" a;\t'\x00"), "7, a;\t'\x00,2024-02-29,a"}, {order(), '#', named("é#"), "7#\"é#\"#2024-02-29#a"},
		{times, ':', value.Record(at("t", value.Time(5)), at("b", value.Bytes(":"))), `"1970-01-01T00:00:00.005Z":3a:`}, {times, '|', value.Record(at("t", value.Time(5)), at("b", value.Bytes("")), at("n", value.Decimal(-5, 1))), `1970-01-01T00:00:00.005Z|""|-0.5`},
		{record(optional("a", flag)), ',', value.Record(), ""}, {record(optional("a", flag)), ',', value.Record(at("a", value.Bool(false))), "false"}, {record(optional("a", words(""))), ',', value.Record(at("a", value.Text(""))), `""`}, {wide(64, api.Optional), '~', value.Record(), strings.Repeat("~", 63)},
		{record(defaulted("a", bounded(api.Text, 0, 9), value.Text(""))), ',', value.Record(at("a", value.Text(""))), `""`}, {record(required("b", flag), required("a", flag)), ',', value.Record(at("a", value.Bool(true)), at("b", value.Bool(false))), "false,true"},
	} {
		if s, e := delimited.Encode(c.t, c.separator, c.v); s != c.want || e != api.OK {
			t.Errorf("%d: Encode(%v) = %q, %d, want %q", i, c.v, s, e, c.want)
		}
		if v, at, e := delimited.Decode(c.t, c.separator, c.want); !value.Equal(v, c.v) || at != 0 || e != api.OK {
			t.Errorf("%d: Decode(%q) = %v, %d, %d, want %v", i, c.want, v, at, e, c.v)
		}
	}
	for i, v := range []V{{}, value.Record(), value.Record(id, due), value.Record(due, a), value.Record(at("id", value.Int(100)), due, a), value.Record(id, due, a, at("more", value.Int(1))), value.Record(at("id", value.Text("7")), due, a), value.Record(id, due, at("kind", value.Text("c"))), named("0123456789"), named("\xFF"), value.List(), {Kind: api.Record, Fields: []api.Field{id, due, a}}} {
		if s, e := delimited.Encode(order(), ',', v); s != "" || e != api.ErrType {
			t.Errorf("%d: Encode(%v) = %q, %d", i, v, s, e)
		}
		if s, e := delimited.Encode(order(), 'x', v); s != "" || e != api.ErrRange {
			t.Errorf("%d: Encode(%v) with x = %q, %d", i, v, s, e)
		}
	}
}

// filled returns a value of wide(64, api.Required) whose line has a number of bytes from 63 to 64 * 1025, with bare texts.
func filled(bytes int) V {
	var l []api.Field
	rest := bytes - 63
	for i := range 64 {
		n := min(rest, 1024)
		rest -= n
		l = append(l, at(name(i), value.Text(strings.Repeat("x", n))))
	}
	return value.Record(l...)
}

func TestP11_5EncodeLimit(t *testing.T) {
	x := wide(64, api.Required)
	s, e := delimited.Encode(x, ',', filled(most))
	if len(s) != most || e != api.OK {
		t.Errorf("a line of %d bytes, %d", len(s), e)
	}
	if v, at, e := delimited.Decode(x, ',', s); !value.Equal(v, filled(most)) || at != 0 || e != api.OK {
		t.Errorf("Decode of the longest line: %d, %d", at, e)
	}
	for _, n := range []int{most + 1, most + 2, most + 63} {
		if s, e := delimited.Encode(x, ',', filled(n)); s != "" || e != api.ErrLong {
			t.Errorf("a line of %d bytes: %d, %d", n, len(s), e)
		}
	}
	// The quotation marks count.
	v := filled(most)
	v.Fields[0].Value.Text = "," + v.Fields[0].Value.Text[1:]
	if s, e := delimited.Encode(x, ',', v); s != "" || e != api.ErrLong {
		t.Errorf("with quotation: %d, %d", len(s), e)
	}
	if s, e := delimited.Encode(x, ';', v); len(s) != most || e != api.OK {
		t.Errorf("with another separator: %d, %d", len(s), e)
	}
	// Defaults are written, so that a line with absent fields may have a record whose own line would be too long.
	for i := range x.Fields {
		x.Fields[i].Need, x.Fields[i].Default = api.Defaulted, []V{value.Text(strings.Repeat("x", 1024))}
	}
	full, at, e := delimited.Decode(x, ',', strings.Repeat(",", 63))
	if s, f := delimited.Encode(x, ',', full); len(full.Fields) != 64 || at != 0 || e != api.OK || s != "" || f != api.ErrLong {
		t.Errorf("long defaults: %d, %d; %d, %d", at, e, len(s), f)
	}
}

func TestP11_6Decode(t *testing.T) {
	null := V{}
	of := func(id int, name V, kind string) V {
		return value.Record(at("id", value.Int(id)), at("name", name), at("due", value.Date(19782)), at("kind", value.Text(kind)))
	}
	for _, c := range []struct {
		line string
		want V
	}{
		{"7,,2024-02-29,b", of(7, null, "b")}, {"7,,2024-02-29,", of(7, null, "a")}, {`7,"",2024-02-29,`, of(7, value.Text(""), "a")}, {`"7","x","2024-02-29","b"`, of(7, value.Text("x"), "b")}, {`0,"a,b""",2024-02-29,"a"`, of(0, value.Text(`a,b"`), "a")}, {"7, ,2024-02-29,", of(7, value.Text(" "), "a")}, {"99,\"\n\",2024-02-29,b", of(99, value.Text("\n"), "b")},
	} {
		if v, at, e := delimited.Decode(order(), ',', c.line); !value.Equal(v, c.want) || at != 0 || e != api.OK {
			t.Errorf("Decode(%q) = %v, %d, %d, want %v", c.line, v, at, e, c.want)
		}
	}
	text := record(defaulted("a", bounded(api.Text, 0, 9), value.Text("x")), required("b", bounded(api.Text, 0, 9)), required("c", bounded(api.Bytes, 0, 9)))
	if v, at, e := delimited.Decode(text, ';', `;"";""`); len(v.Fields) != 3 || v.Fields[0].Value.Text != "x" || v.Fields[1].Value.Text != "" || v.Fields[2].Value.Kind != api.Bytes || at != 0 || e != api.OK {
		t.Errorf("the default: %v, %d, %d", v, at, e)
	}
	if v, at, e := delimited.Decode(text, ';', `"";a;00`); len(v.Fields) != 3 || v.Fields[0].Value.Text != "" || at != 0 || e != api.OK {
		t.Errorf("an empty text instead of the default: %v, %d, %d", v, at, e)
	}
	if v, at, e := delimited.Decode(record(optional("a", flag)), ';', ""); v.Kind != api.Record || len(v.Fields) != 0 || at != 0 || e != api.OK {
		t.Errorf("the empty line: %v, %d, %d", v, at, e)
	}
}

func TestP11_6DecodeErrors(t *testing.T) {
	long := strings.Repeat("x", most+1)
	for _, c := range []struct {
		line string
		at   int
		e    api.Errno
	}{
		{long, 0, api.ErrLong}, {strings.Repeat(",", 64), 64, api.ErrLimit}, {"x,\n", 2, api.ErrByte}, {`x,"a"b`, 5, api.ErrSyntax}, {`7,"a,2024-02-29,b`, 17, api.ErrTruncated}, {"7,,2024-02-29,b\r", 15, api.ErrByte}, {"7,,2024-02-29,b,,\n", 17, api.ErrByte},
		{"", 0, api.ErrShort}, {"7,x", 3, api.ErrShort}, {"x", 1, api.ErrShort}, {",,", 2, api.ErrShort}, {`7,"a,b",2024-02-29`, 18, api.ErrShort}, {`"","",""`, 8, api.ErrShort},
		{"7,x,2024-02-29,a,", 17, api.ErrField}, {"7,x,2024-02-29,a,b,c", 17, api.ErrField}, {"x,,,,", 5, api.ErrField}, {`"""",",",,"",""`, 13, api.ErrField}, {strings.Repeat(",", 63), 4, api.ErrField},
		{",x,2024-02-29,a", 0, api.ErrAbsent}, {"7,x,,a", 4, api.ErrAbsent}, {`7,"x,",,c`, 7, api.ErrAbsent}, {",,,", 0, api.ErrAbsent}, {"7,,,", 3, api.ErrAbsent},
		{`"",x,2024-02-29,a`, 0, api.ErrSyntax}, {`7,x,"",a`, 4, api.ErrSyntax}, {"07,x,,c", 0, api.ErrSyntax}, {"7.0,x,2024-02-29,a", 0, api.ErrSyntax}, {" 7,x,2024-02-29,a", 0, api.ErrSyntax}, {"7,,2023-02-29,a", 3, api.ErrSyntax}, {`7,"","2024-02-9",c`, 5, api.ErrSyntax},
		{"100,x,,c", 0, api.ErrType}, {"-1,x,,c", 0, api.ErrType}, {`"100",x,,c`, 0, api.ErrType}, {"7,0123456789,,c", 2, api.ErrType}, {"7,\xFF,,c", 2, api.ErrType}, {"7,,2099-01-01,c", 3, api.ErrType}, {"7,,2024-02-29,c", 14, api.ErrType}, {`7,,2024-02-29,""`, 14, api.ErrType}, {`7,"""x""",2024-02-29,c`, 21, api.ErrType},
	} {
		if v, at, e := delimited.Decode(order(), ',', c.line); !value.IsNull(v) || at != c.at || e != c.e {
			t.Errorf("Decode(%.99q) = %v, %d, %d, want %d, %d", c.line, v, at, e, c.at, c.e)
		}
	}
	for _, line := range []string{"", "7,,2024-02-29,b", "\n", long} {
		for _, n := range notSeparators() {
			if v, at, e := delimited.Decode(order(), n, line); !value.IsNull(v) || at != 0 || e != api.ErrRange {
				t.Errorf("Decode with %d = %v, %d, %d", n, v, at, e)
			}
		}
	}
}
