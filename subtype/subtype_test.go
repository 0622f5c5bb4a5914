package subtype_test

import (
	"slices"
	"strconv"
	"strings"
	"testing"

	"manifold/api"
	"manifold/fit"
	"manifold/schema"
	"manifold/subtype"
	"manifold/value"
)

type (
	T = api.Type
	V = api.Value
	F = api.TypeField
)

var flag = T{Kind: api.Bool}

func number(least, most int) T    { return T{Kind: api.Int, Min: least, Max: most} }
func amount(s, least, most int) T { return T{Kind: api.Decimal, Scale: s, Min: least, Max: most} }
func text(least, most int) T      { return T{Kind: api.Text, Min: least, Max: most} }
func words(l ...string) T         { return T{Kind: api.Text, Words: l} }
func bounded(kind, least, most int) T {
	return T{Kind: kind, Min: least, Max: most}
}
func list(least, most int, elem T) T {
	return T{Kind: api.List, Min: least, Max: most, Elem: []T{elem}}
}

// record and variant number their fields in order.
func record(l ...F) T  { return T{Kind: api.Record, Fields: numbered(l)} }
func variant(l ...F) T { return T{Kind: api.Variant, Fields: numbered(l)} }

func numbered(l []F) []F {
	for i := range l {
		l[i].Number = i + 1
	}
	return l
}

func required(name string, t T) F { return F{Name: name, Need: api.Required, Type: t} }
func optional(name string, t T) F { return F{Name: name, Need: api.Optional, Type: t} }
func defaulted(name string, t T, v V) F {
	return F{Name: name, Need: api.Defaulted, Type: t, Default: []V{v}}
}

func at(name string, v V) api.Field { return api.Field{Name: name, Value: v} }

func ints(l ...int) V {
	var out []V
	for _, n := range l {
		out = append(out, value.Int(n))
	}
	return value.List(out...)
}

// manyWords returns a number of words of three bytes, in order, from a number on.
func manyWords(from, n int) []string {
	var l []string
	for i := range n {
		l = append(l, strconv.Itoa(100+from+i))
	}
	return l
}

// printable returns words that begin with begin and end with the characters from the space on, but without some of them.
func printable(begin string, n int, without string) []string {
	var l []string
	for c := ' '; len(l) < n; c++ {
		if !strings.ContainsRune(without, c) {
			l = append(l, begin+string(c))
		}
	}
	return l
}

// pair is a pair of types with the witness for s and t, which is Null if s is within t.
type pair struct {
	s, t T
	w    V
}

// pairs are examples for all rules.
func pairs() map[string][]pair {
	null := V{}
	zero, one := value.Int(0), value.Int(1)
	ab, abc := record(required("a", number(0, 9)), optional("b", flag)), record(optional("c", flag), optional("b", flag), optional("a", number(-1, 9)))
	seven := defaulted("a", number(0, 9), value.Int(7))
	return map[string][]pair{
		"kinds": {
			{flag, flag, null}, {flag, number(0, 1), value.Bool(false)}, {number(0, 1), flag, zero}, {number(-5, -3), text(0, 5), value.Int(-3)}, {number(3, 5), amount(0, 3, 5), value.Int(3)}, {amount(0, 3, 5), number(3, 5), value.Decimal(3, 0)},
			{bounded(api.Date, 1, 2), bounded(api.Time, 1, 2), value.Date(1)}, {bounded(api.Bytes, 1, 2), text(1, 2), value.Bytes("\x00")}, {text(1, 2), bounded(api.Bytes, 1, 2), value.Text("a")}, {words("b", "c"), flag, value.Text("b")},
			{list(2, 3, flag), flag, value.List(value.Bool(false), value.Bool(false))}, {record(seven, optional("b", flag)), variant(required("a", number(0, 9))), value.Record(at("a", value.Int(7)))}, {variant(required("b", flag), required("a", flag)), record(), value.Variant("b", value.Bool(false))},
		},
		"numbers": {
			{number(1, 5), number(1, 5), null}, {number(1, 5), number(0, 6), null}, {number(1, 5), number(2, 5), one}, {number(1, 5), number(1, 4), value.Int(5)}, {number(1, 5), number(2, 4), one}, {number(1, 5), number(6, 9), one}, {number(6, 9), number(1, 5), value.Int(9)}, {number(-9, -1), number(-9, -2), value.Int(-1)},
			{amount(2, 1, 5), amount(2, 0, 6), null}, {amount(2, 1, 5), amount(2, 2, 6), value.Decimal(1, 2)}, {amount(2, 1, 5), amount(2, 0, 4), value.Decimal(5, 2)}, {amount(2, -7, 5), amount(3, -9, 9), value.Decimal(0, 2)}, {amount(2, 4, 5), amount(0, 5, 5), value.Decimal(4, 2)}, {amount(1, 0, 0), amount(0, 0, 0), value.Decimal(0, 1)},
			{bounded(api.Date, 1, 5), bounded(api.Date, 1, 6), null}, {bounded(api.Date, 1, 5), bounded(api.Date, 2, 5), value.Date(1)}, {bounded(api.Date, -3, 5), bounded(api.Date, -3, 4), value.Date(5)}, {bounded(api.Time, 1, 5), bounded(api.Time, 0, 5), null}, {bounded(api.Time, 1, 5), bounded(api.Time, 2, 6), value.Time(1)}, {bounded(api.Time, 1, 5), bounded(api.Time, 1, 3), value.Time(5)},
		},
		"texts": {
			{text(1, 3), text(1, 3), null}, {text(1, 3), text(0, 4), null}, {text(1, 3), text(2, 3), value.Text("a")}, {text(1, 3), text(1, 2), value.Text("aaa")}, {text(0, 3), text(1, 2), value.Text("")}, {text(5, 6), text(1, 2), value.Text("aaaaaa")}, {text(1, 2), text(5, 6), value.Text("a")},
			{bounded(api.Bytes, 1, 3), bounded(api.Bytes, 1, 4), null}, {bounded(api.Bytes, 0, 3), bounded(api.Bytes, 1, 4), value.Bytes("")}, {bounded(api.Bytes, 2, 3), bounded(api.Bytes, 3, 4), value.Bytes("\x00\x00")}, {bounded(api.Bytes, 2, 3), bounded(api.Bytes, 2, 2), value.Bytes("\x00\x00\x00")},
			{words("a", "b"), words("a", "b"), null}, {words("a", "b"), words("", "a", "b"), null}, {words("a", "b"), words("a", "c"), value.Text("b")}, {words("a", "b", "c"), words("c"), value.Text("a")}, {words("a", "bb"), text(1, 2), null}, {words("a", "bb"), text(2, 2), value.Text("a")}, {words("", "a", "bb", "ccc"), text(0, 1), value.Text("bb")}, {words(""), text(0, 0), null}, {words("", "a"), text(0, 0), value.Text("a")}, {words("\xC3\xA9"), text(1, 1), value.Text("\xC3\xA9")},
			{text(0, 0), words("", "a"), null}, {text(0, 0), words("a"), value.Text("")}, {text(0, 1), words("a"), value.Text("")}, {text(0, 1), words("", "a"), value.Text(" ")}, {text(0, 3), words("", " ", "!"), value.Text("\"")}, {text(1, 1), words("a"), value.Text(" ")}, {text(1, 1), words("", " "), value.Text("!")}, {text(2, 3), words("", " ", "a "), value.Text("a!")}, {text(2, 3), words("a", "aaa"), value.Text("a ")}, {text(1024, 1024), words("a"), value.Text(strings.Repeat("a", 1023) + " ")},
			{text(0, 9), words(slices.Insert(printable("", 63, ""), 0, "")...), value.Text("_")}, {text(1, 9), words(printable("", 64, "")...), value.Text("`")}, {text(3, 9), words(printable("aa", 64, "")...), value.Text("aa`")}, {text(3, 9), words(printable("aa", 64, "X")...), value.Text("aaX")}, {text(2, 2), words(printable("", 64, "")...), value.Text("a ")},
		},
		"lists": {
			{list(1, 2, flag), list(1, 2, flag), null}, {list(1, 2, flag), list(0, 3, flag), null}, {list(1, 2, number(1, 2)), list(1, 2, number(0, 2)), null}, {list(0, 0, flag), list(0, 0, text(1, 2)), null}, {list(0, 0, flag), list(0, 3, text(1, 2)), null}, {list(0, 0, flag), list(1, 2, flag), value.List()}, {list(0, 1, flag), list(0, 0, flag), value.List(value.Bool(false))},
			{list(1, 2, number(1, 2)), list(2, 2, number(3, 4)), ints(1)}, {list(0, 3, number(1, 2)), list(1, 1, flag), ints()}, {list(0, 3, number(1, 2)), list(0, 1, flag), ints(1, 1)}, {list(2, 6, number(1, 2)), list(0, 1, flag), ints(1, 1)}, {list(2, 6, number(1, 2)), list(0, 4, number(1, 2)), ints(1, 1, 1, 1, 1)}, {list(3, 6, number(1, 2)), list(0, 2, number(1, 2)), ints(1, 1, 1)},
			{list(0, 3, number(0, 2)), list(0, 3, number(0, 1)), ints(2)}, {list(1, 3, number(0, 2)), list(0, 3, number(0, 1)), ints(2)}, {list(3, 3, number(0, 2)), list(0, 3, number(0, 1)), ints(2, 0, 0)}, {list(2, 3, number(0, 2)), list(0, 3, flag), ints(0, 0)}, {list(2, 2, list(0, 2, number(4, 6))), list(2, 2, list(0, 2, number(4, 5))), value.List(ints(6), ints())},
		},
		"records": {
			{record(), record(), null}, {ab, ab, null}, {ab, abc, null}, {record(), record(optional("a", flag)), null}, {record(), record(required("a", flag)), value.Record()}, {record(), record(defaulted("a", flag, value.Bool(true))), value.Record()}, {record(seven), record(required("a", number(0, 9))), null}, {record(seven), record(optional("a", number(0, 9))), null}, {record(required("a", number(0, 9))), record(seven), null},
			{record(optional("a", number(0, 9))), record(required("a", number(0, 9))), value.Record()}, {record(optional("a", number(0, 9))), record(seven), value.Record()}, {record(optional("a", number(0, 9))), record(required("a", number(0, 8))), value.Record(at("a", value.Int(9)))}, {record(required("a", number(3, 9))), record(), value.Record(at("a", value.Int(3)))}, {record(optional("a", number(3, 9))), record(), value.Record(at("a", value.Int(3)))}, {record(seven), record(), value.Record(at("a", zero))}, {record(seven), record(required("a", number(0, 8))), value.Record(at("a", value.Int(9)))},
			{record(seven, required("b", number(0, 9)), required("c", number(0, 9))), record(required("a", number(0, 9)), required("b", number(1, 9)), required("c", number(1, 9))), value.Record(at("a", value.Int(7)), at("b", zero), at("c", zero))}, {record(required("z", number(2, 3)), required("a", number(4, 5))), record(required("a", number(5, 5)), required("z", number(0, 2))), value.Record(at("a", value.Int(4)), at("z", value.Int(3)))}, {record(optional("z", number(2, 3)), required("a", number(4, 5))), record(required("a", number(5, 5)), required("z", number(0, 9))), value.Record(at("a", value.Int(4)))},
			{ab, record(required("a", number(0, 9))), value.Record(at("a", zero), at("b", value.Bool(false)))}, {record(required("a", number(1, 9))), record(required("a", number(1, 9)), optional("b", flag), required("c", flag)), value.Record(at("a", one))}, {record(required("a", ab)), record(required("a", abc)), null}, {record(required("a", abc)), record(required("a", ab)), value.Record(at("a", value.Record(at("c", value.Bool(false)))))},
		},
		"variants": {
			{variant(required("a", flag)), variant(required("b", number(0, 1)), required("a", flag)), null}, {variant(required("a", number(0, 1)), required("b", flag)), variant(required("b", flag), required("a", number(0, 2))), null}, {variant(required("a", number(2, 3))), variant(required("b", number(2, 3))), value.Variant("a", value.Int(2))}, {variant(required("b", flag), required("a", number(2, 3))), variant(required("b", flag), required("a", number(2, 2))), value.Variant("a", value.Int(3))},
			{variant(required("c", number(1, 3)), required("a", number(2, 3))), variant(required("c", number(1, 2)), required("b", number(2, 2))), value.Variant("c", value.Int(3))}, {variant(required("a", number(2, 3)), required("c", number(1, 3))), variant(required("c", number(1, 2)), required("b", number(2, 2))), value.Variant("a", value.Int(2))}, {variant(required("a", flag)), variant(required("a", number(0, 1))), value.Variant("a", value.Bool(false))},
		},
	}
}

func TestP8_1Within(t *testing.T) {
	for name, l := range pairs() {
		for i, p := range l {
			is, e := subtype.Within(p.s, p.t)
			if e != api.OK || is != value.IsNull(p.w) {
				t.Errorf("%s %d: Within = %t, %d", name, i, is, e)
			}
			back, e := subtype.Within(p.t, p.s)
			same, f := subtype.Same(p.s, p.t)
			if e != api.OK || f != api.OK || same != (is && back) {
				t.Errorf("%s %d: Same = %t, %d", name, i, same, f)
			}
		}
	}
}

func TestP8_1Same(t *testing.T) {
	seven := value.Int(7)
	for i, c := range []struct {
		s, t T
		same bool
	}{
		{number(1, 2), number(1, 2), true}, {number(1, 2), number(1, 3), false}, {number(1, 3), number(1, 2), false}, {words(""), text(0, 0), true}, {text(0, 0), words(""), true}, {words(""), text(0, 1), false}, {list(0, 0, flag), list(0, 0, text(1, 1)), true}, {list(0, 1, flag), list(0, 1, text(1, 1)), false},
		{record(required("a", flag), optional("b", number(0, 9))), record(optional("b", number(0, 9)), required("a", flag)), true}, {record(defaulted("a", number(0, 9), seven)), record(required("a", number(0, 9))), true}, {record(defaulted("a", number(0, 9), seven)), record(defaulted("a", number(0, 9), value.Int(8))), true}, {record(defaulted("a", number(0, 9), seven)), record(optional("a", number(0, 9))), false},
		{variant(required("a", flag), required("b", number(0, 1))), variant(required("b", number(0, 1)), required("a", flag)), true}, {variant(required("a", flag)), variant(required("a", flag), required("b", flag)), false}, {variant(required("a", flag), required("b", flag)), variant(required("a", flag)), false},
	} {
		if same, e := subtype.Same(c.s, c.t); same != c.same || e != api.OK {
			t.Errorf("%d: Same = %t, %d", i, same, e)
		}
	}
}

func TestP8_2Witness(t *testing.T) {
	for name, l := range pairs() {
		for i, p := range l {
			w, e := subtype.Witness(p.s, p.t)
			want := api.OK
			if value.IsNull(p.w) {
				want = api.ErrNotFound
			}
			if e != want || !value.Equal(w, p.w) {
				t.Errorf("%s %d: Witness = %v, %d, want %v", name, i, w, e, p.w)
			}
			if e == api.OK && (!fit.Fits(p.s, w) || fit.Fits(p.t, w)) {
				t.Errorf("%s %d: %v is no witness", name, i, w)
			}
		}
	}
}

// TestP8_2Sizes has witnesses with as many values as are permitted, and with more.
func TestP8_2Sizes(t *testing.T) {
	// of is a list of 38 numbers at least, and so 39 values; 105 of them, and the list of these, are 4096 values.
	of := list(38, 40, number(0, 1))
	full := list(0, 105, of)
	row := list(15, 15, flag)
	// The default consists of 1001 values, the least value of 1.
	big := func(need int) F {
		f := F{Name: "d", Need: need, Type: list(0, 256, list(0, 9, flag))}
		if need == api.Defaulted {
			f.Default = []V{{Kind: api.List, List: slices.Repeat([]V{value.List(slices.Repeat([]V{value.Bool(true)}, 9)...)}, 100)}}
		}
		return f
	}
	for i, c := range []struct {
		s, t T
		size int // 0: too many
	}{
		{full, list(0, 104, of), 4096}, {list(0, 106, of), list(0, 105, of), 0}, {list(0, 256, row), list(0, 254, row), 4081}, {list(0, 256, row), list(0, 255, row), 0}, {list(0, 256, list(1, 1, list(1, 1, row))), list(0, 200, list(1, 1, list(1, 1, row))), 1 + 201*18}, {list(0, 256, list(1, 1, list(1, 1, row))), list(0, 227, list(1, 1, list(1, 1, row))), 0},
		{list(0, 256, list(256, 256, flag)), list(0, 15, list(256, 256, flag)), 0}, {list(0, 256, list(256, 256, flag)), list(0, 14, list(256, 256, flag)), 1 + 15*257}, {list(0, 1, full), list(0, 1, list(0, 104, of)), 0}, {list(0, 1, list(0, 104, of)), list(0, 1, list(0, 103, of)), 4058}, {list(156, 156, list(0, 101, of)), list(156, 156, list(0, 100, of)), 4096}, {list(157, 157, list(0, 101, of)), list(157, 157, list(0, 100, of)), 0},
		{record(required("a", full)), record(required("a", list(0, 104, of))), 0}, {record(required("a", list(0, 104, of)), required("b", list(36, 36, flag))), record(required("a", list(0, 103, of)), required("b", list(36, 36, flag))), 4095}, {record(required("a", list(0, 104, of)), required("b", list(37, 37, flag))), record(required("a", list(0, 103, of)), required("b", list(37, 37, flag))), 4096}, {record(required("b", list(38, 38, flag)), required("a", list(0, 104, of))), record(required("a", list(0, 103, of)), required("b", list(38, 38, flag))), 0}, {record(optional("b", list(38, 38, flag)), required("a", list(0, 104, of))), record(required("a", list(0, 103, of)), optional("b", list(38, 38, flag))), 4058},
		{record(big(api.Defaulted), required("a", list(0, 79, of))), record(big(api.Defaulted), required("a", list(0, 78, of))), 1 + 1001 + 1 + 79*39}, {record(big(api.Defaulted), required("a", list(0, 80, of))), record(big(api.Defaulted), required("a", list(0, 79, of))), 0}, {record(big(api.Defaulted), required("a", list(80, 80, flag))), record(required("a", list(80, 80, flag))), 1 + 1 + 81}, {record(big(api.Required), required("a", list(0, 80, of))), record(big(api.Required), required("a", list(0, 79, of))), 1 + 1 + 1 + 80*39},
		{variant(required("a", full)), variant(required("a", list(0, 104, of))), 0}, {variant(required("a", list(0, 104, of))), variant(required("a", list(0, 103, of))), 4058}, {variant(required("b", flag), required("a", full)), variant(required("b", flag)), 2},
	} {
		w, e := subtype.Witness(c.s, c.t)
		switch {
		case c.size == 0 && (e != api.ErrLimit || !value.IsNull(w)):
			t.Errorf("%d: Witness of %d values, %d, want ErrLimit", i, value.Size(w), e)
		case c.size > 0 && (e != api.OK || value.Size(w) != c.size || value.Check(w) != api.OK || !schema.Accepts(c.s, w) || fit.Fits(c.t, w)):
			t.Errorf("%d: Witness of %d values, %d, want %d", i, value.Size(w), e, c.size)
		}
	}
}

func TestP8_3Join(t *testing.T) {
	ab := record(required("a", flag), optional("b", flag))
	for i, c := range []struct{ s, t, want T }{
		{flag, flag, flag}, {number(1, 5), number(1, 5), number(1, 5)}, {number(1, 5), number(7, 9), number(1, 9)}, {number(1, 9), number(3, 4), number(1, 9)}, {number(-3, 2), number(-5, 1), number(-5, 2)}, {amount(2, 1, 5), amount(2, 0, 3), amount(2, 0, 5)}, {bounded(api.Date, 1, 2), bounded(api.Date, 4, 5), bounded(api.Date, 1, 5)}, {bounded(api.Time, 1, 2), bounded(api.Time, -4, -3), bounded(api.Time, -4, 2)}, {bounded(api.Bytes, 1, 2), bounded(api.Bytes, 0, 1), bounded(api.Bytes, 0, 2)},
		{text(1, 2), text(4, 5), text(1, 5)}, {text(0, 0), text(0, 0), text(0, 0)}, {text(0, 0), text(3, 4), text(0, 4)}, {text(0, 0), words("ab"), words("", "ab")}, {words("ab"), text(0, 0), words("", "ab")}, {words(""), text(0, 0), words("")}, {text(0, 0), words(""), words("")}, {words("b", "c"), words("", "b"), words("", "b", "c")}, {words("b"), words("a"), words("a", "b")}, {words("a"), words("a"), words("a")}, {words("ab"), text(3, 5), text(2, 5)}, {text(3, 5), words("ab", "cccccc"), text(2, 6)}, {text(1, 5), words("ab", "cc"), text(1, 5)}, {words(""), text(3, 5), text(0, 5)}, {words("B", "a"), words("A", "b"), words("A", "B", "a", "b")},
		{words(manyWords(0, 32)...), words(manyWords(32, 32)...), words(manyWords(0, 64)...)}, {words(manyWords(0, 33)...), words(manyWords(32, 32)...), words(manyWords(0, 64)...)}, {words(manyWords(0, 33)...), words(manyWords(33, 32)...), text(3, 3)}, {words(manyWords(0, 63)...), text(0, 0), words(slices.Insert(manyWords(0, 63), 0, "")...)}, {words(manyWords(0, 64)...), text(0, 0), text(0, 3)}, {text(0, 0), words(manyWords(0, 64)...), text(0, 3)}, {words(manyWords(0, 64)...), words("1234567"), text(3, 7)},
		{list(1, 2, number(1, 2)), list(3, 4, number(5, 6)), list(1, 4, number(1, 6))}, {list(0, 0, text(0, 1)), list(1, 2, number(0, 1)), list(0, 2, number(0, 1))}, {list(1, 2, number(0, 1)), list(0, 0, text(0, 1)), list(0, 2, number(0, 1))}, {list(0, 0, flag), list(0, 0, number(0, 1)), list(0, 0, number(0, 1))}, {list(0, 0, ab), list(0, 1, variant(ab.Fields[0])), list(0, 1, variant(ab.Fields[0]))}, {list(0, 1, ab), list(2, 3, ab), list(0, 3, ab)}, {list(0, 1, list(0, 1, words("a"))), list(0, 2, list(2, 3, words("b"))), list(0, 2, list(0, 3, words("a", "b")))}, {list(2, 2, flag), list(2, 2, flag), list(2, 2, flag)},
		{ab, ab, ab}, {variant(ab.Fields[0]), variant(ab.Fields[0]), variant(ab.Fields[0])},
	} {
		if j, e := subtype.Join(c.s, c.t); e != api.OK || !schema.Equal(j, c.want) {
			t.Errorf("%d: Join = %v, %d, want %v", i, j, e, c.want)
		}
	}
}

func TestP8_3NoJoin(t *testing.T) {
	a := required("a", flag)
	turned := record(optional("b", flag), a)
	turned.Fields[0].Number, turned.Fields[1].Number = 2, 1
	for i, c := range []struct{ s, t T }{
		{flag, number(0, 1)}, {number(1, 2), amount(0, 1, 2)}, {amount(1, 1, 2), amount(2, 1, 2)}, {amount(1, 0, 0), amount(2, 0, 0)}, {text(0, 0), bounded(api.Bytes, 0, 0)}, {bounded(api.Date, 1, 1), bounded(api.Time, 1, 1)}, {record(a), variant(a)}, {record(a), record()}, {record(a, optional("b", flag)), turned}, {record(a), record(optional("a", flag))}, {variant(a), variant(a, required("b", flag))}, {record(defaulted("a", flag, value.Bool(true))), record(defaulted("a", flag, value.Bool(false)))},
		{list(0, 1, flag), list(0, 1, text(0, 0))}, {list(0, 1, record(a)), list(0, 1, record())}, {list(0, 1, list(0, 1, amount(1, 0, 1))), list(0, 1, list(0, 1, amount(2, 0, 1)))}, {list(0, 1, number(0, 1)), number(0, 1)}, {list(0, 0, flag), flag},
	} {
		if j, e := subtype.Join(c.s, c.t); e != api.ErrType || !schema.Equal(j, T{}) {
			t.Errorf("%d: Join = %v, %d", i, j, e)
		}
		if j, e := subtype.Join(c.t, c.s); e != api.ErrType || !schema.Equal(j, T{}) {
			t.Errorf("%d: Join of the second one and the first one = %v, %d", i, j, e)
		}
	}
}

func TestP8Invalid(t *testing.T) {
	good := number(1, 2)
	deep := flag
	for range 1 << 16 {
		deep = list(0, 1, deep)
	}
	for i, c := range []struct {
		s, t T
		e    api.Errno
	}{
		{T{}, good, api.ErrKind}, {good, T{}, api.ErrKind}, {number(2, 1), T{}, api.ErrRange}, {T{}, number(2, 1), api.ErrKind}, {number(2, 1), number(2, 1), api.ErrRange}, {good, number(2, 1), api.ErrRange}, {flag, T{Kind: api.Bool, Max: 1}, api.ErrFormat}, {T{Kind: 11}, T{Kind: 11}, api.ErrKind}, {words("b", "a"), words("a", "a"), api.ErrOrder}, {words("a", "b"), words("a", "a"), api.ErrDuplicate}, {T{Kind: api.List}, good, api.ErrShort}, {good, T{Kind: api.Variant}, api.ErrShort}, {deep, good, api.ErrDepth}, {good, deep, api.ErrDepth}, {deep, deep, api.ErrDepth},
		{list(16, 16, list(256, 256, flag)), good, api.ErrLimit}, {good, list(16, 16, list(256, 256, flag)), api.ErrLimit},
	} {
		is, e := subtype.Within(c.s, c.t)
		same, f := subtype.Same(c.s, c.t)
		w, g := subtype.Witness(c.s, c.t)
		j, h := subtype.Join(c.s, c.t)
		if is || same || !value.IsNull(w) || !schema.Equal(j, T{}) || e != c.e || f != c.e || g != c.e || h != c.e {
			t.Errorf("%d: Within: %t, %d; Same: %t, %d; Witness: %v, %d; Join: %v, %d", i, is, e, same, f, w, g, j, h)
		}
	}
}
