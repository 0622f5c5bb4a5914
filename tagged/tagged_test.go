package tagged_test

import (
	"math"
	"slices"
	"strings"
	"testing"

	"manifold/api"
	"manifold/schema"
	"manifold/tagged"
	"manifold/value"
)

type (
	T = api.Type
	V = api.Value
	F = api.TypeField
	P = tagged.Part
)

var (
	flag  = T{Kind: api.Bool}
	digit = T{Kind: api.Int, Min: -9, Max: 300}
	short = T{Kind: api.Text, Max: 4}
	word  = T{Kind: api.Text, Words: []string{"", "gold"}}
)

func record(l ...F) T  { return T{Kind: api.Record, Fields: l} }
func variant(l ...F) T { return T{Kind: api.Variant, Fields: l} }
func bounded(kind, least, most int) T {
	return T{Kind: kind, Min: least, Max: most}
}
func list(least, most int, elem T) T {
	return T{Kind: api.List, Min: least, Max: most, Elem: []T{elem}}
}

func required(n int, name string, t T) F {
	return F{Number: n, Name: name, Need: api.Required, Type: t}
}
func optional(n int, name string, t T) F {
	return F{Number: n, Name: name, Need: api.Optional, Type: t}
}
func defaulted(n int, name string, t T, v V) F {
	return F{Number: n, Name: name, Need: api.Defaulted, Type: t, Default: []V{v}}
}

func at(name string, v V) api.Field { return api.Field{Name: name, Value: v} }

// numbers are numbers with their bytes.
func numbers() map[int]string {
	return map[int]string{0: "\x00", 1: "\x01", 127: "\x7f", 128: "\x80\x01", 129: "\x81\x01", 300: "\xac\x02", 1<<14 - 1: "\xff\x7f", 1 << 14: "\x80\x80\x01", 1<<56 - 1: "\xff\xff\xff\xff\xff\xff\xff\x7f", 1 << 56: "\x80\x80\x80\x80\x80\x80\x80\x80\x01", 1 << 61: "\x80\x80\x80\x80\x80\x80\x80\x80\x20", 1<<62 - 1: "\xff\xff\xff\xff\xff\xff\xff\xff\x3f"}
}

func TestP10_1Put(t *testing.T) {
	for n, s := range numbers() {
		if got, e := tagged.Put(n); got != s || e != api.OK {
			t.Errorf("Put(%d) = %q, %d, want %q", n, got, e, s)
		}
	}
	for _, n := range []int{-1, math.MinInt, 1 << 62, 1<<62 + 1, math.MaxInt} {
		if got, e := tagged.Put(n); got != "" || e != api.ErrRange {
			t.Errorf("Put(%d) = %q, %d", n, got, e)
		}
	}
	if tagged.MaxVarint != 9 {
		t.Error("MaxVarint")
	}
}

func TestP10_1Take(t *testing.T) {
	for n, s := range numbers() {
		for _, c := range []struct {
			s  string
			at int
		}{{s, 0}, {s + "\x01", 0}, {s + "\x80", 0}, {"ab" + s, 2}, {"\x80" + s, 1}, {"\x80" + s + "\xFF\xFF", 1}} {
			if got, next, e := tagged.Take(c.s, c.at); got != n || next != c.at+len(s) || e != api.OK {
				t.Errorf("Take(%q, %d) = %d, %d, %d", c.s, c.at, got, next, e)
			}
		}
	}
	high := strings.Repeat("\x80", 8)
	for _, c := range []struct {
		s  string
		at int
		e  api.Errno
	}{
		{"", -1, api.ErrRange}, {"", 1, api.ErrRange}, {"a", 2, api.ErrRange}, {"a", -1, api.ErrRange}, {"a", math.MaxInt, api.ErrRange}, {"a", math.MinInt, api.ErrRange}, {"\x80", -1, api.ErrRange},
		{"", 0, api.ErrTruncated}, {"a", 1, api.ErrTruncated}, {"\x80", 0, api.ErrTruncated}, {"a\x80\xFF", 1, api.ErrTruncated}, {high, 0, api.ErrTruncated}, {high + "\x80", 1, api.ErrTruncated},
		{high + "\x80", 0, api.ErrFormat}, {high + "\xFF\x01", 0, api.ErrFormat}, {high + "\x80\x00", 0, api.ErrFormat}, {"\x80\x00", 0, api.ErrFormat}, {"\xFF\x00", 0, api.ErrFormat}, {"\xFF\x80\x00\x01", 0, api.ErrFormat}, {high + "\x00", 0, api.ErrFormat}, {high + "\x40", 0, api.ErrFormat}, {high + "\x7F", 0, api.ErrFormat}, {"a" + high + "\x40", 1, api.ErrFormat},
	} {
		if n, next, e := tagged.Take(c.s, c.at); n != 0 || next != 0 || e != c.e {
			t.Errorf("Take(%q, %d) = %d, %d, %d, want %d", c.s, c.at, n, next, e, c.e)
		}
	}
}

func TestP10_1Zigzag(t *testing.T) {
	for n, z := range map[int]int{0: 0, -1: 1, 1: 2, -2: 3, 2: 4, 300: 600, -300: 599, api.MaxNumber: 2 * api.MaxNumber, -api.MaxNumber: 2*api.MaxNumber - 1, 1<<61 - 1: 1<<62 - 2, -(1 << 61): 1<<62 - 1} {
		if got, e := tagged.Zigzag(n); got != z || e != api.OK {
			t.Errorf("Zigzag(%d) = %d, %d", n, got, e)
		}
		if got, e := tagged.Unzigzag(z); got != n || e != api.OK {
			t.Errorf("Unzigzag(%d) = %d, %d", z, got, e)
		}
	}
	for _, n := range []int{1 << 61, -(1 << 61) - 1, math.MaxInt, math.MinInt, 1 << 62, -(1 << 62)} {
		if got, e := tagged.Zigzag(n); got != 0 || e != api.ErrRange {
			t.Errorf("Zigzag(%d) = %d, %d", n, got, e)
		}
	}
	for _, n := range []int{-1, 1 << 62, math.MaxInt, math.MinInt} {
		if got, e := tagged.Unzigzag(n); got != 0 || e != api.ErrRange {
			t.Errorf("Unzigzag(%d) = %d, %d", n, got, e)
		}
	}
}

// example is a record with fields of all needs, whose numbers are not in order.
func example() T {
	return record(required(1, "n", digit), optional(300, "v", variant(required(7, "day", bounded(api.Date, -9, 20000)), required(1, "r", record(optional(4, "x", flag))))), defaulted(2, "w", short, value.Text("-")), optional(5, "l", list(1, 3, flag)))
}

// encoded is a value of a type with its bytes.
type encoded struct {
	t T
	v V
	s string
}

func allEncoded() []encoded {
	yes, no, text := value.Bool(true), value.Bool(false), value.Text
	gold := record(required(1, "n", digit), optional(2, "w", word))
	two := T{Kind: api.Decimal, Scale: 2, Min: -999, Max: 999}
	large := bounded(api.Int, -api.MaxNumber, api.MaxNumber)
	return []encoded{
		{flag, no, "\x00"}, {flag, yes, "\x01"}, {digit, value.Int(0), "\x00"}, {digit, value.Int(-1), "\x01"}, {digit, value.Int(1), "\x02"}, {digit, value.Int(-9), "\x11"}, {digit, value.Int(63), "\x7E"}, {digit, value.Int(64), "\x80\x01"}, {digit, value.Int(300), "\xD8\x04"}, {large, value.Int(api.MaxNumber), "\xFE\xFF\xB3\xCC\xD4\xDF\xC6\x03"}, {large, value.Int(-api.MaxNumber), "\xFD\xFF\xB3\xCC\xD4\xDF\xC6\x03"},
		{two, value.Decimal(-150, 2), "\xAB\x02"}, {two, value.Decimal(0, 2), "\x00"}, {bounded(api.Date, -9, 9), value.Date(-9), "\x11"}, {bounded(api.Time, -9, 1<<40), value.Time(1 << 39), "\x80\x80\x80\x80\x80\x20"},
		{short, text(""), "\x00"}, {short, text("ab"), "\x02ab"}, {short, text("\xC3\xA9"), "\x02\xC3\xA9"}, {word, text("gold"), "\x04gold"}, {word, text(""), "\x00"}, {bounded(api.Bytes, 0, 9), value.Bytes("\xFF\x00"), "\x02\xFF\x00"}, {bounded(api.Text, 0, 1024), text(strings.Repeat("x", 1024)), "\x80\x08" + strings.Repeat("x", 1024)},
		{list(0, 3, flag), value.List(), "\x00"}, {list(0, 3, flag), value.List(yes, no), "\x02\x01\x00"}, {list(0, 3, digit), value.List(value.Int(1), value.Int(300)), "\x02\x02\xD8\x04"}, {list(0, 3, list(0, 1, flag)), value.List(value.List(yes), value.List()), "\x02\x01\x01\x00"}, {list(0, 256, flag), V{Kind: api.List, List: slices.Repeat([]V{yes}, 256)}, "\x80\x02" + strings.Repeat("\x01", 256)},
		{record(), value.Record(), "\x00"}, {gold, value.Record(at("n", value.Int(4)), at("w", text("gold"))), "\x02\x01\x01\x08\x02\x05\x04gold"}, {gold, value.Record(at("n", value.Int(4))), "\x01\x01\x01\x08"}, {record(required(9999, "a", flag), required(128, "b", flag)), value.Record(at("a", yes), at("b", no)), "\x02\x80\x01\x01\x00\x8F\x4E\x01\x01"}, {record(required(2, "a", flag), required(1, "b", digit)), value.Record(at("a", yes), at("b", value.Int(64))), "\x02\x01\x02\x80\x01\x02\x01\x01"}, {record(required(3, "a", record())), value.Record(at("a", value.Record())), "\x01\x03\x01\x00"},
		{variant(required(7, "a", flag), required(300, "b", short)), value.Variant("a", yes), "\x07\x01\x01"}, {variant(required(7, "a", flag), required(300, "b", short)), value.Variant("b", text("ab")), "\xAC\x02\x03\x02ab"},
		{example(), value.Record(at("n", value.Int(-2)), at("w", text("ab")), at("l", value.List(yes, no)), at("v", value.Variant("day", value.Date(100)))), "\x04\x01\x01\x03\x02\x03\x02ab\x05\x03\x02\x01\x00\xAC\x02\x04\x07\x02\xC8\x01"}, {example(), value.Record(at("n", value.Int(0)), at("w", text("-")), at("v", value.Variant("r", value.Record(at("x", yes))))), "\x03\x01\x01\x00\x02\x02\x01-\xAC\x02\x06\x01\x04\x01\x04\x01\x01"}, {list(0, 2, gold), value.List(value.Record(at("n", value.Int(1))), value.Record(at("n", value.Int(2)))), "\x02\x01\x01\x01\x02\x01\x01\x01\x04"},
	}
}

func TestP10_2Encode(t *testing.T) {
	for i, c := range allEncoded() {
		if s, e := tagged.Encode(c.t, c.v); s != c.s || e != api.OK {
			t.Errorf("%d: Encode(%v) = %q, %d, want %q", i, c.v, s, e, c.s)
		}
		if n, e := tagged.Size(c.t, c.v); n != len(c.s) || e != api.OK {
			t.Errorf("%d: Size(%v) = %d, %d, want %d", i, c.v, n, e, len(c.s))
		}
	}
}

func TestP10_2Errors(t *testing.T) {
	one := value.Int(1)
	deep := flag
	for range 1 << 16 {
		deep = list(0, 1, deep)
	}
	full := V{Kind: api.List, List: slices.Repeat([]V{{Kind: api.List, List: slices.Repeat([]V{one}, 256)}}, 16)}
	for i, c := range []struct {
		t T
		v V
		e api.Errno
	}{
		{T{}, V{}, api.ErrKind}, {bounded(api.Int, 2, 1), one, api.ErrRange}, {deep, one, api.ErrDepth}, {T{Kind: api.List}, value.List(), api.ErrShort}, {T{Kind: api.Text, Words: []string{"b", "a"}}, value.Text("a"), api.ErrOrder},
		{digit, V{}, api.ErrType}, {digit, value.Int(301), api.ErrType}, {digit, value.Int(math.MinInt), api.ErrType}, {digit, value.Date(1), api.ErrType}, {short, value.Text("\xFF"), api.ErrType}, {short, value.Text("abcde"), api.ErrType}, {word, value.Text("silver"), api.ErrType}, {flag, V{Kind: api.Bool, Int: 2}, api.ErrType}, {T{Kind: api.Decimal, Max: 9, Scale: 1}, value.Decimal(1, 2), api.ErrType}, {list(1, 2, flag), value.List(), api.ErrType}, {example(), value.Record(), api.ErrType}, {example(), value.Record(at("n", one)), api.ErrType}, {example(), value.Record(at("n", one), at("w", value.Text("a")), at("x", one)), api.ErrType}, {variant(required(1, "a", flag)), value.Variant("b", value.Bool(true)), api.ErrType}, {list(0, 256, list(0, 256, digit)), full, api.ErrType},
	} {
		s, e := tagged.Encode(c.t, c.v)
		n, f := tagged.Size(c.t, c.v)
		if s != "" || n != 0 || e != c.e || f != c.e {
			t.Errorf("%d: Encode = %q, %d; Size = %d, %d; want %d", i, s, e, n, f, c.e)
		}
	}
}

func TestP10_3Decode(t *testing.T) {
	for i, c := range allEncoded() {
		if v, at, e := tagged.Decode(c.t, c.s); !value.Equal(v, c.v) || at != 0 || e != api.OK {
			t.Errorf("%d: Decode(%q) = %v, %d, %d, want %v", i, c.s, v, at, e, c.v)
		}
		if v, at, e := tagged.Decode(c.t, c.s+"\x00"); !value.IsNull(v) || at != len(c.s) || e != api.ErrLong {
			t.Errorf("%d: Decode(%q) = %v, %d, %d, want ErrLong", i, c.s+"\x00", v, at, e)
		}
	}
	// Fields that are not known are skipped, and defaults are filled in.
	n, dash := at("n", value.Int(4)), at("w", value.Text("-"))
	for i, c := range []struct {
		s string
		v V
	}{
		{"\x01\x01\x01\x08", value.Record(n, dash)}, {"\x02\x01\x01\x08\x09\x02zz", value.Record(n, dash)}, {"\x02\x01\x01\x08\x8F\x4E\x00", value.Record(n, dash)}, {"\x03\x01\x01\x08\x03\x00\x04\x02\xFF\xFF", value.Record(n, dash)}, {"\x04\x01\x01\x08\x02\x02\x01a\x03\x00\x05\x02\x01\x01", value.Record(n, at("w", value.Text("a")), at("l", value.List(value.Bool(true))))}, {"\x02\x01\x01\x08\xAC\x02\x03\x01\x01\x00", value.Record(n, dash, at("v", value.Variant("r", value.Record())))}, {"\x02\x01\x01\x08\xAC\x02\x06\x01\x04\x01\x09\x01\xFF", value.Record(n, dash, at("v", value.Variant("r", value.Record())))},
	} {
		if v, at, e := tagged.Decode(example(), c.s); !value.Equal(v, c.v) || at != 0 || e != api.OK {
			t.Errorf("%d: Decode(%q) = %v, %d, %d, want %v", i, c.s, v, at, e, c.v)
		}
	}
	first := record(defaulted(2, "a", digit, value.Int(7)), defaulted(1, "b", record(defaulted(1, "c", flag, value.Bool(true))), value.Record(at("c", value.Bool(false)))))
	if v, _, e := tagged.Decode(first, "\x00"); e != api.OK || !value.Equal(v, value.Record(at("a", value.Int(7)), at("b", value.Record(at("c", value.Bool(false)))))) {
		t.Errorf("Decode of nothing but defaults = %v, %d", v, e)
	}
}

// wrong is what cannot be decoded, with the offset of the error.
type wrong struct {
	t  T
	s  string
	at int
	e  api.Errno
}

func wrongSimple() []wrong {
	high := strings.Repeat("\x80", 8)
	date := bounded(api.Date, -9, 9)
	bytes := bounded(api.Bytes, 1, 2)
	return []wrong{
		{flag, "", 0, api.ErrTruncated}, {flag, "\x02", 0, api.ErrFormat}, {flag, "\xFF\x00", 0, api.ErrFormat}, {flag, "\x01\x01", 1, api.ErrLong}, {flag, "\x00\x80\x00", 1, api.ErrLong},
		{digit, "", 0, api.ErrTruncated}, {digit, "\x80", 1, api.ErrTruncated}, {digit, "\x80\x80\x80", 3, api.ErrTruncated}, {digit, high, 8, api.ErrTruncated}, {digit, high + "\x80", 0, api.ErrFormat}, {digit, high + "\x80\x01", 0, api.ErrFormat}, {digit, "\x80\x00", 0, api.ErrFormat}, {digit, high + "\x40", 0, api.ErrFormat}, {digit, high + "\x3F", 0, api.ErrType}, {digit, "\x13", 0, api.ErrType}, {digit, "\xDA\x04", 0, api.ErrType}, {digit, "\xDA\x04\x00", 0, api.ErrType}, {digit, "\x02\x00\x00", 1, api.ErrLong}, {T{Kind: api.Decimal, Scale: 2, Min: 5, Max: 9}, "\x08", 0, api.ErrType}, {date, "\x14", 0, api.ErrType}, {bounded(api.Time, -9, 9), "\x13", 0, api.ErrType},
		{short, "", 0, api.ErrTruncated}, {short, "\x01", 1, api.ErrTruncated}, {short, "\x04abc", 4, api.ErrTruncated}, {short, "\x05abc", 4, api.ErrTruncated}, {short, high + "\x3Fabc", 12, api.ErrTruncated}, {short, "\x80\x00", 0, api.ErrFormat}, {short, "\x81", 1, api.ErrTruncated}, {short, "\x05abcde", 0, api.ErrType}, {short, "\x01\xFF", 0, api.ErrType}, {short, "\x02\xC3a", 0, api.ErrType}, {short, "\x01ab", 2, api.ErrLong}, {word, "\x03gol", 0, api.ErrType}, {word, "\x06golden", 0, api.ErrType}, {bytes, "\x00", 0, api.ErrType}, {bytes, "\x03abc", 0, api.ErrType}, {bytes, "\x03ab", 3, api.ErrTruncated},
		{list(1, 3, flag), "", 0, api.ErrTruncated}, {list(1, 3, flag), "\x00", 0, api.ErrType}, {list(1, 3, flag), "\x04\x02", 0, api.ErrType}, {list(1, 3, flag), "\x04", 0, api.ErrType}, {list(1, 3, flag), high + "\x3F", 0, api.ErrType}, {list(1, 3, flag), "\x83\x00", 0, api.ErrFormat}, {list(1, 3, flag), "\x02\x01", 2, api.ErrTruncated}, {list(1, 3, flag), "\x02\x01\x02", 2, api.ErrFormat}, {list(1, 3, flag), "\x02\x02\x02", 1, api.ErrFormat}, {list(1, 3, flag), "\x01\x01\x00", 2, api.ErrLong}, {list(0, 3, digit), "\x02\x00\x13", 2, api.ErrType}, {list(0, 3, list(1, 1, flag)), "\x02\x01\x00\x00", 3, api.ErrType},
	}
}

func wrongParts() []wrong {
	two := record(required(1, "a", flag), required(3, "b", digit))
	cases := variant(required(7, "a", flag), required(300, "b", short))
	high := strings.Repeat("\x80", 8)
	return []wrong{
		{two, "", 0, api.ErrTruncated}, {two, "\x00", 1, api.ErrAbsent}, {two, "\x01\x01\x01\x00", 4, api.ErrAbsent}, {two, "\x01\x03\x01\x00", 4, api.ErrAbsent}, {two, "\x01\x02\x01\x00", 4, api.ErrAbsent}, {two, "\x00\x00", 1, api.ErrAbsent}, {two, "\x02", 1, api.ErrTruncated}, {two, "\x02\x01", 2, api.ErrTruncated}, {two, "\x02\x01\x01", 3, api.ErrTruncated}, {two, "\x02\x01\x01\x01", 4, api.ErrTruncated}, {two, high + "\x3F\x01\x01\x01", 12, api.ErrTruncated}, {two, "\x82\x00", 0, api.ErrFormat},
		{two, "\x01\x00", 1, api.ErrRange}, {two, "\x02\x01\x01\x00\x00", 4, api.ErrRange}, {two, "\x01\x90\x4E\x00", 1, api.ErrRange}, {two, "\x02\x01\x01\x00\x90\x4E\x00", 4, api.ErrRange}, {two, "\x01\x81\x00", 1, api.ErrFormat}, {two, "\x02\x03\x01\x00\x03\x01\x00", 4, api.ErrOrder}, {two, "\x02\x03\x01\x00\x01\x01\x00", 4, api.ErrOrder}, {two, "\x02\x09\x01\x00\x03\x01\x00", 4, api.ErrOrder}, {two, "\x02\x09\x00\x09\x00", 3, api.ErrOrder}, {two, "\x02\x01\x01\x00\x01", 4, api.ErrOrder}, {two, "\x02\x01\x01\x00\x81", 5, api.ErrTruncated},
		{two, "\x02\x01\x02\x00\x00", 4, api.ErrLong}, {two, "\x02\x01\x02\x00", 4, api.ErrTruncated}, {two, "\x02\x01\x00\x00", 3, api.ErrTruncated}, {two, "\x02\x01\x81\x00", 2, api.ErrFormat}, {two, "\x02\x01\x01\x02\x03\x01\x00", 3, api.ErrFormat}, {two, "\x02\x01\x01\x00\x03\x01\x80\x01", 7, api.ErrTruncated}, {two, "\x02\x01\x01\x00\x03\x02\x80\x00", 6, api.ErrFormat}, {two, "\x02\x01\x01\x00\x03\x02\xDA\x04", 6, api.ErrType}, {two, "\x02\x01\x01\x00\x03\x01\x00\x00", 7, api.ErrLong}, {two, "\x03\x01\x01\x00\x03\x01\x00\x04\x02\x00", 10, api.ErrTruncated}, {two, "\x03\x01\x01\x00\x03\x01\x00\x04\x00\x01", 9, api.ErrLong}, {two, "\x03\x01\x01\x00\x03\x01\x00\x04\x80", 9, api.ErrTruncated},
		{record(optional(1, "a", short)), "\x01\x01\x03\x03ab", 6, api.ErrTruncated}, {record(optional(1, "a", short)), "\x01\x01\x03\x03abc", 6, api.ErrTruncated}, {record(optional(1, "a", short)), "\x01\x01\x04\x01\xFFab", 3, api.ErrType}, {record(optional(1, "a", short)), "\x01\x01\x04\x01aab", 5, api.ErrLong}, {record(optional(1, "a", list(2, 2, flag))), "\x01\x01\x02\x02\x01\x01", 5, api.ErrTruncated}, {record(optional(1, "a", list(2, 2, flag))), "\x01\x01\x02\x01\x01\x01", 3, api.ErrType}, {record(optional(1, "a", two)), "\x01\x01\x04\x01\x01\x01\x00\x00", 7, api.ErrAbsent}, {record(optional(1, "a", two)), "\x01\x01\x05\x01\x01\x01\x00\x00", 7, api.ErrAbsent},
		{cases, "", 0, api.ErrTruncated}, {cases, "\x08\x01\x00", 0, api.ErrField}, {cases, "\x08", 0, api.ErrField}, {cases, "\x00\x01\x00", 0, api.ErrField}, {cases, high + "\x3F", 0, api.ErrField}, {cases, "\x87\x00", 0, api.ErrFormat}, {cases, "\x87", 1, api.ErrTruncated}, {cases, "\x07", 1, api.ErrTruncated}, {cases, "\x07\x01", 2, api.ErrTruncated}, {cases, "\x07\x02\x00", 3, api.ErrTruncated}, {cases, "\x07\x02\x00\x00", 3, api.ErrLong}, {cases, "\x07\x00", 2, api.ErrTruncated}, {cases, "\x07\x00\x00", 2, api.ErrTruncated}, {cases, "\x07\x01\x02", 2, api.ErrFormat}, {cases, "\x07\x01\x00\x00", 3, api.ErrLong}, {cases, "\xAC\x02\x02\x01\xFF", 3, api.ErrType}, {cases, "\xAC\x02\x80\x00", 2, api.ErrFormat}, {list(2, 2, cases), "\x02\x07\x01\x00\x06\x01\x00", 4, api.ErrField},
	}
}

func TestP10_3Wrong(t *testing.T) {
	for i, c := range slices.Concat(wrongSimple(), wrongParts()) {
		if v, at, e := tagged.Decode(c.t, c.s); !value.IsNull(v) || at != c.at || e != c.e {
			t.Errorf("%d: Decode(%q) = %v, %d, %d, want %d, %d", i, c.s, v, at, e, c.at, c.e)
		}
	}
	for i, c := range []struct {
		t T
		e api.Errno
	}{
		{T{}, api.ErrKind}, {bounded(api.Int, 2, 1), api.ErrRange}, {T{Kind: api.List}, api.ErrShort}, {record(required(1, "a", flag), required(1, "b", flag)), api.ErrDuplicate}, {T{Kind: api.Bool, Min: 1}, api.ErrFormat}, {record(defaulted(1, "a", flag, value.Int(1))), api.ErrType},
	} {
		if v, at, e := tagged.Decode(c.t, "\x80"); !value.IsNull(v) || at != 0 || e != c.e {
			t.Errorf("%d: Decode = %v, %d, %d, want %d", i, v, at, e, c.e)
		}
	}
}

// rows returns the bytes of a list of n lists of m bytes 1.
func rows(n, m int) string {
	inner, _ := tagged.Put(m)
	outer, _ := tagged.Put(n)
	return outer + strings.Repeat(inner+strings.Repeat("\x01", m), n)
}

func TestP10_3Limit(t *testing.T) {
	two := list(0, 256, list(0, 256, flag))
	fifteen := V{Kind: api.List, List: slices.Repeat([]V{value.Bool(true)}, 15)}
	filled := list(0, 256, record(defaulted(1, "a", list(0, 15, flag), fifteen), optional(2, "b", flag)))
	s := rows(45, 90) // 4096 values
	more := rows(17, 256)
	for i, c := range []struct {
		t  T
		s  string
		at int
		e  api.Errno
	}{
		{two, s, 0, api.OK}, {two, "\x2E" + s[1:] + "\x00", 0, api.ErrLimit}, {two, more, 0, api.ErrLimit}, {two, rows(256, 256), 0, api.ErrLimit},
		// An error behind the values that are permitted comes first.
		{two, more + "\x00", len(more), api.ErrLong}, {two, "\x2E" + s[1:], len(s), api.ErrTruncated}, {two, more[:len(more)-1] + "\x02", len(more) - 1, api.ErrFormat}, {two, "\x2E" + s[1:] + "\x02\x01\x02", len(s) + 2, api.ErrFormat}, {list(0, 256, list(0, 16, flag)), more, 1, api.ErrType},
		// Each of the records has 17 values with its default.
		{filled, "\xF0\x01" + strings.Repeat("\x00", 240), 0, api.OK}, {filled, "\xF1\x01" + strings.Repeat("\x00", 241), 0, api.ErrLimit}, {filled, "\xF0\x01" + strings.Repeat("\x00", 225) + strings.Repeat("\x01\x02\x01\x01", 15), 0, api.OK}, {filled, "\xF0\x01" + strings.Repeat("\x00", 224) + strings.Repeat("\x01\x02\x01\x01", 16), 0, api.ErrLimit}, {filled, "\xF0\x01" + strings.Repeat("\x01\x02\x01\x01", 16) + strings.Repeat("\x00", 224), 0, api.ErrLimit}, {filled, "\xF0\x01" + strings.Repeat("\x00", 239) + "\x01\x01\x02\x01\x01", 0, api.OK}, {filled, "\x80\x02" + strings.Repeat("\x00", 255) + "\x01\x02\x01\x02", 260, api.ErrFormat},
	} {
		v, at, e := tagged.Decode(c.t, c.s)
		if at != c.at || e != c.e || value.IsNull(v) != (e != api.OK) || e == api.OK && !schema.Accepts(c.t, v) {
			t.Errorf("%d: Decode = %d values, %d, %d, want %d, %d", i, value.Size(v), at, e, c.at, c.e)
		}
	}
}

// TestP10_3Defaults has a few bytes that stand for 2^28 values, which are not kept, and far more bytes whose last one is wrong.
func TestP10_3Defaults(t *testing.T) {
	large := V{Kind: api.List, List: slices.Repeat([]V{{Kind: api.List, List: slices.Repeat([]V{value.Bool(true)}, 250)}}, 16)}
	x := record(defaulted(1, "a", list(0, 16, list(0, 256, flag)), large))
	rows := list(0, 256, list(0, 256, x))
	s := "\x80\x02" + strings.Repeat("\x80\x02"+strings.Repeat("\x00", 256), 256)
	if v, at, e := tagged.Decode(rows, s); !value.IsNull(v) || at != 0 || e != api.ErrLimit {
		t.Errorf("Decode = %d values, %d, %d", value.Size(v), at, e)
	}
	if v, at, e := tagged.Decode(list(0, 256, rows), "\x80\x02"+strings.Repeat(s, 256)+"\x00"); !value.IsNull(v) || at != 2+256*len(s) || e != api.ErrLong {
		t.Errorf("Decode = %d values, %d, %d", value.Size(v), at, e)
	}
}

func TestP10_4Parts(t *testing.T) {
	for i, c := range []struct {
		s string
		l []P
	}{
		{"\x00", nil}, {"\x01\x01\x00", []P{{1, ""}}}, {"\x02\x03\x02ab\xC8\x01\x00", []P{{3, "ab"}, {200, ""}}}, {"\x01\x8F\x4E\x01\xFF", []P{{9999, "\xFF"}}}, {"\x02\x01\x01\x08\x02\x05\x04gold", []P{{1, "\x08"}, {2, "\x04gold"}}}, {"\x01\x07\x80\x01" + strings.Repeat("x", 128), []P{{7, strings.Repeat("x", 128)}}},
	} {
		l, at, e := tagged.Parts(c.s)
		if !slices.Equal(l, c.l) || at != 0 || e != api.OK {
			t.Errorf("%d: Parts(%q) = %v, %d, %d", i, c.s, l, at, e)
		}
		if s, e := tagged.Join(c.l); s != c.s || e != api.OK {
			t.Errorf("%d: Join(%v) = %q, %d", i, c.l, s, e)
		}
	}
	high := strings.Repeat("\x80", 8)
	for i, c := range []struct {
		s  string
		at int
		e  api.Errno
	}{
		{"", 0, api.ErrTruncated}, {"\x80", 1, api.ErrTruncated}, {"\x80\x00", 0, api.ErrFormat}, {high + "\x80", 0, api.ErrFormat}, {high + "\x3F", 9, api.ErrTruncated}, {"\x01", 1, api.ErrTruncated}, {"\x01\x01", 2, api.ErrTruncated}, {"\x01\x01\x01", 3, api.ErrTruncated}, {"\x01\x01\x03ab", 5, api.ErrTruncated}, {"\x01\x01" + high + "\x3Fab", 13, api.ErrTruncated}, {"\x01\x00\x00", 1, api.ErrRange}, {"\x01\x90\x4E\x00", 1, api.ErrRange}, {"\x01\x90\x4E", 1, api.ErrRange}, {"\x02\x01\x00\x01\x00", 3, api.ErrOrder}, {"\x02\x05\x01a\x04\x00", 4, api.ErrOrder}, {"\x02\x05\x01a\x00\x00", 4, api.ErrRange}, {"\x01\x81\x00\x00", 1, api.ErrFormat}, {"\x01\x01\x81\x00", 2, api.ErrFormat}, {"\x00\x00", 1, api.ErrLong}, {"\x01\x01\x01ab", 4, api.ErrLong},
	} {
		if l, at, e := tagged.Parts(c.s); len(l) != 0 || at != c.at || e != c.e {
			t.Errorf("%d: Parts(%q) = %v, %d, %d, want %d, %d", i, c.s, l, at, e, c.at, c.e)
		}
	}
}

func TestP10_4Join(t *testing.T) {
	for i, c := range []struct {
		l []P
		e api.Errno
	}{
		{[]P{{0, "a"}}, api.ErrRange}, {[]P{{10000, "a"}}, api.ErrRange}, {[]P{{-1, ""}}, api.ErrRange}, {[]P{{math.MinInt, ""}}, api.ErrRange}, {[]P{{math.MaxInt, ""}}, api.ErrRange}, {[]P{{3, "a"}, {3, "b"}}, api.ErrOrder}, {[]P{{3, ""}, {2, ""}}, api.ErrOrder}, {[]P{{3, ""}, {0, ""}}, api.ErrRange}, {[]P{{3, ""}, {2, ""}, {0, ""}}, api.ErrOrder}, {[]P{{1, ""}, {10000, ""}, {2, ""}, {2, ""}}, api.ErrRange},
	} {
		if s, e := tagged.Join(c.l); s != "" || e != c.e {
			t.Errorf("%d: Join(%v) = %q, %d, want %d", i, c.l, s, e, c.e)
		}
	}
	var all []P
	for n := range schema.MaxField {
		all = append(all, P{n + 1, "x"})
	}
	s, e := tagged.Join(all)
	if l, _, f := tagged.Parts(s); e != api.OK || f != api.OK || !slices.Equal(l, all) {
		t.Errorf("Join of all numbers: %d, %d", e, f)
	}
}

func TestP10_5Unknown(t *testing.T) {
	twice := record(required(3, "a", flag), required(3, "b", flag), F{Number: -1})
	for i, c := range []struct {
		t T
		s string
		l []int
		e api.Errno
	}{
		{example(), "\x00", nil, api.OK}, {example(), "\x02\x01\x01\x08\x09\x02zz", []int{9}, api.OK}, {example(), "\x05\x01\x00\x02\x00\x05\x00\x06\x00\xAC\x02\x00", []int{6}, api.OK}, {example(), "\x03\x03\x00\x04\x00\x8F\x4E\x00", []int{3, 4, 9999}, api.OK}, {record(), "\x02\x01\x00\x02\x00", []int{1, 2}, api.OK}, {T{Kind: api.Record}, "\x00", nil, api.OK}, {twice, "\x02\x03\x00\x04\x00", []int{4}, api.OK}, {twice, "\x01\x04\x01\xFF", []int{4}, api.OK},
		{T{}, "\x00", nil, api.ErrKind}, {flag, "", nil, api.ErrKind}, {variant(required(1, "a", flag)), "\x01\x01\x00", nil, api.ErrKind}, {T{Kind: 11, Fields: example().Fields}, "\x00", nil, api.ErrKind}, {example(), "", nil, api.ErrTruncated}, {example(), "\x01\x00", nil, api.ErrRange}, {example(), "\x02\x09\x00\x08\x00", nil, api.ErrOrder}, {example(), "\x01\x09\x00\x00", nil, api.ErrLong}, {example(), "\x81\x00", nil, api.ErrFormat},
	} {
		if l, e := tagged.Unknown(c.t, c.s); !slices.Equal(l, c.l) || e != c.e {
			t.Errorf("%d: Unknown(%q) = %v, %d, want %v, %d", i, c.s, l, e, c.l, c.e)
		}
	}
}
