package value_test

import (
	"math"
	"slices"
	"strings"
	"testing"

	"manifold/api"
	"manifold/value"
)

type V = api.Value

func field(name string, v V) api.Field { return api.Field{Name: name, Value: v} }

// raw returns the record of some fields as they are.
func raw(l ...api.Field) V { return V{Kind: api.Record, Fields: l} }

// nested returns a value within a number of lists, one within the other.
func nested(levels int, v V) V {
	for range levels {
		v = V{Kind: api.List, List: []V{v}}
	}
	return v
}

// copies returns a list with a value several times.
func copies(n int, v V) V { return V{Kind: api.List, List: slices.Repeat([]V{v}, n)} }

// fields returns a record with a number of fields.
func fields(n int) V {
	v := raw()
	for i := range n {
		v.Fields = append(v.Fields, field("f"+string([]byte{'a' + byte(i/26), 'a' + byte(i%26)}), value.Int(i)))
	}
	return v
}

func TestTerms(t *testing.T) {
	if value.MinDate != -719162 || value.MaxDate != 2932896 || value.MinTime != -62135596800000 || value.MaxTime != 253402300799999 {
		t.Error("the constants")
	}
}

func TestP4_1CheckNumbers(t *testing.T) {
	for _, c := range []struct {
		v V
		e api.Errno
	}{
		{value.Bool(false), api.OK}, {value.Bool(true), api.OK}, {V{Kind: api.Bool, Int: 2}, api.ErrRange}, {V{Kind: api.Bool, Int: -1}, api.ErrRange},
		{value.Int(0), api.OK}, {value.Int(api.MaxNumber), api.OK}, {value.Int(-api.MaxNumber), api.OK}, {value.Int(api.MaxNumber + 1), api.ErrRange}, {value.Int(-api.MaxNumber - 1), api.ErrRange},
		{value.Int(math.MaxInt), api.ErrRange}, {value.Int(math.MinInt), api.ErrRange},
		{value.Decimal(0, 0), api.OK}, {value.Decimal(api.MaxNumber, 12), api.OK}, {value.Decimal(-api.MaxNumber, 0), api.OK}, {value.Decimal(api.MaxNumber+1, 0), api.ErrRange}, {value.Decimal(-api.MaxNumber-1, 0), api.ErrRange},
		{value.Decimal(1, 13), api.ErrRange}, {value.Decimal(1, -1), api.ErrRange}, {value.Decimal(150, 2), api.OK},
		{value.Date(value.MinDate), api.OK}, {value.Date(value.MaxDate), api.OK}, {value.Date(value.MinDate - 1), api.ErrRange}, {value.Date(value.MaxDate + 1), api.ErrRange},
		{value.Time(value.MinTime), api.OK}, {value.Time(value.MaxTime), api.OK}, {value.Time(value.MinTime - 1), api.ErrRange}, {value.Time(value.MaxTime + 1), api.ErrRange},
	} {
		if e := value.Check(c.v); e != c.e {
			t.Errorf("Check(%v) = %d, want %d", c.v, e, c.e)
		}
	}
}

func TestP4_1CheckTexts(t *testing.T) {
	for _, c := range []struct {
		v V
		e api.Errno
	}{
		{value.Text(""), api.OK}, {value.Text("a\xC3\xA9\x00"), api.OK}, {value.Text(strings.Repeat("x", 1024)), api.OK}, {value.Text(strings.Repeat("x", 1025)), api.ErrLong},
		{value.Text(strings.Repeat("\xC3\xA9", 512)), api.OK}, {value.Text(strings.Repeat("\xC3\xA9", 513)), api.ErrLong}, {value.Text("\xFF"), api.ErrText}, {value.Text("a\xC3"), api.ErrText}, {value.Text("\xED\xA0\x80"), api.ErrText},
		{value.Text(strings.Repeat("\xFF", 1024)), api.ErrText}, {value.Text(strings.Repeat("\xFF", 1025)), api.ErrLong},
		{value.Bytes(""), api.OK}, {value.Bytes("\xFF\x00"), api.OK}, {value.Bytes(strings.Repeat("\xFF", 1024)), api.OK}, {value.Bytes(strings.Repeat("\xFF", 1025)), api.ErrLong},
	} {
		if e := value.Check(c.v); e != c.e {
			t.Errorf("Check(%v) = %d, want %d", c.v, e, c.e)
		}
	}
}

func TestP4_1CheckKinds(t *testing.T) {
	for _, c := range []struct {
		v V
		e api.Errno
	}{
		{V{}, api.ErrAbsent}, {V{List: []V{}, Fields: []api.Field{}}, api.ErrAbsent}, {V{Int: 1}, api.ErrKind}, {V{Scale: 1}, api.ErrKind}, {V{Text: "a"}, api.ErrKind}, {V{List: []V{{}}}, api.ErrKind}, {V{Fields: []api.Field{{}}}, api.ErrKind},
		{V{Kind: 11}, api.ErrKind}, {V{Kind: -1}, api.ErrKind}, {V{Kind: math.MaxInt}, api.ErrKind}, {V{Kind: math.MinInt, Scale: 1}, api.ErrKind}, {V{Kind: 11, Int: 1, List: []V{{}}}, api.ErrKind},
	} {
		if e := value.Check(c.v); e != c.e {
			t.Errorf("Check(%v) = %d, want %d", c.v, e, c.e)
		}
	}
}

// TestP4_1CheckUnused sets every field in a valid value of every kind: those that the kind uses do not lead to ErrFormat, the others do.
func TestP4_1CheckUnused(t *testing.T) {
	for kind, uses := range []string{api.Bool: "i", api.Int: "i", api.Decimal: "is", api.Text: "t", api.Bytes: "t", api.Date: "i", api.Time: "i", api.List: "l", api.Record: "f", api.Variant: "tl"} {
		if kind == api.Null {
			continue
		}
		for _, f := range "istlf" {
			v := V{Kind: kind}
			if kind == api.Variant {
				v = value.Variant("a", value.Int(1))
			}
			switch f {
			case 'i':
				v.Int = 1
			case 's':
				v.Scale = 1
			case 't':
				v.Text = "a"
			case 'l':
				v.List = []V{value.Int(1)}
			case 'f':
				v.Fields = []api.Field{field("a", value.Int(1))}
			}
			want := api.OK
			if !strings.ContainsRune(uses, f) {
				want = api.ErrFormat
			}
			if e := value.Check(v); e != want {
				t.Errorf("Check(%v) = %d, want %d", v, e, want)
			}
		}
		v := V{Kind: kind, List: []V{}, Fields: []api.Field{}}
		if e := value.Check(v); kind != api.Variant && e != api.OK {
			t.Errorf("Check(%v) = %d, though its lists are empty", v, e)
		}
	}
	for _, v := range []V{{Kind: api.Bool, Int: 2, Scale: 1}, {Kind: api.Text, Text: "\xFF", Int: 1}, {Kind: api.Record, Scale: 1, Fields: []api.Field{{}}}, {Kind: api.Variant, Int: 1}, {Kind: api.List, Int: 1, List: []V{{}}}} {
		if e := value.Check(v); e != api.ErrFormat {
			t.Errorf("Check(%v) = %d, want ErrFormat", v, e)
		}
	}
}

func TestP4_1CheckLists(t *testing.T) {
	one := value.Int(1)
	for i, c := range []struct {
		v V
		e api.Errno
	}{
		{value.List(), api.OK}, {copies(256, one), api.OK}, {copies(257, one), api.ErrLimit}, {copies(257, V{}), api.ErrLimit}, {value.List(one, V{}), api.ErrAbsent}, {value.List(V{Kind: 11}, V{}), api.ErrKind},
		{raw(), api.OK}, {fields(64), api.OK}, {fields(65), api.ErrLimit}, {V{Kind: api.Record, Fields: make([]api.Field, 64)}, api.ErrName}, {V{Kind: api.Record, Fields: make([]api.Field, 65)}, api.ErrLimit},
		{raw(field("a", one), field("a", one)), api.ErrDuplicate}, {raw(field("b", one), field("a", one)), api.ErrOrder}, {raw(field("a", one), field("B", one)), api.ErrName}, {raw(field("", one)), api.ErrName},
		{raw(field("a", one), field("a", one), field("A", one)), api.ErrDuplicate}, {raw(field("b", one), field("a", one), field("a", one)), api.ErrOrder}, {raw(field("a", one), field("b", one), field("a", one)), api.ErrOrder},
		{raw(field("a", one), field("a0", one), field("a_", one), field("aa", one), field("b", one)), api.OK}, {raw(field("a", V{}), field("a", one)), api.ErrDuplicate}, {raw(field("a", V{}), field("b", V{Kind: 11})), api.ErrAbsent},
		{value.Variant("a", one), api.OK}, {value.Variant("", one), api.ErrName}, {value.Variant("A", one), api.ErrName}, {value.Variant("a", V{}), api.ErrAbsent}, {V{Kind: api.Variant, Text: "a"}, api.ErrShort}, {V{Kind: api.Variant}, api.ErrName},
		{V{Kind: api.Variant, Text: "a", List: []V{{}, {}}}, api.ErrFormat}, {V{Kind: api.Variant, Text: "9", List: []V{one, one}}, api.ErrName},
		{value.List(value.List(value.Text("\xFF")), copies(257, one)), api.ErrText}, {value.List(raw(field("a", value.Text("\xFF")), field("b", one)), copies(257, one)), api.ErrText}, {raw(field("a", value.List(V{Kind: api.Bool, Int: 2})), field("b", V{})), api.ErrRange},
	} {
		if e := value.Check(c.v); e != c.e {
			t.Errorf("%d: Check = %d, want %d", i, e, c.e)
		}
	}
}

func TestP4_1CheckSizes(t *testing.T) {
	one := value.Int(1)
	full := copies(45, copies(90, one))                 // 4096 values
	begun := copies(56, copies(72, one))                // 4089 values
	begun.List = append(begun.List, nested(7, V{}))     // the 4097th one is Null, on level 9
	less := copies(56, copies(72, one))                 // 4089 values
	less.List[55].List = less.List[54].List[:71]        // one less
	less.List = append(less.List, nested(7, V{}))       // the 4096th one is Null, on level 9
	more := value.Clone(full)                           // 4096 values
	more.List = append(more.List, one)                  // 4097 values
	absent := value.Clone(full)                         // 4096 values
	absent.List = append(absent.List, V{Kind: 11}, V{}) // and invalid ones
	for i, c := range []struct {
		v V
		e api.Errno
	}{
		{full, api.OK}, {more, api.ErrLimit}, {absent, api.ErrLimit}, {begun, api.ErrLimit}, {less, api.ErrDepth},
		{nested(7, one), api.OK}, {nested(8, one), api.ErrDepth}, {nested(8, V{}), api.ErrDepth}, {nested(7, V{}), api.ErrAbsent}, {nested(7, value.List()), api.OK}, {nested(5, value.Variant("a", raw(field("a", one)))), api.OK}, {nested(6, value.Variant("a", raw(field("a", one)))), api.ErrDepth},
		{value.List(nested(7, one), V{}), api.ErrDepth}, {value.List(V{}, nested(7, one)), api.ErrAbsent}, {nested(1<<16, one), api.ErrDepth},
	} {
		if e := value.Check(c.v); e != c.e {
			t.Errorf("%d: Check = %d, want %d", i, e, c.e)
		}
	}
	// A value that contains another one often is too large, however large it would be.
	vast := one
	for range 7 {
		vast = copies(256, vast)
	}
	if e := value.Check(vast); e != api.ErrLimit {
		t.Errorf("Check of 256^7 values = %d", e)
	}
}

func TestP4_2IsNull(t *testing.T) {
	for i, c := range []struct {
		v    V
		null bool
	}{
		{V{}, true}, {V{List: []V{}}, true}, {V{Fields: []api.Field{}}, true}, {V{Int: 1}, false}, {V{Scale: 1}, false}, {V{Text: "\x00"}, false}, {V{List: []V{{}}}, false}, {V{Fields: []api.Field{{}}}, false},
		{V{Kind: api.Int}, false}, {V{Kind: -1}, false}, {value.List(), false}, {value.Bool(false), false},
	} {
		if value.IsNull(c.v) != c.null {
			t.Errorf("%d: IsNull(%v) = %t", i, c.v, !c.null)
		}
	}
}

func TestP4_2IsName(t *testing.T) {
	long := strings.Repeat("abcd", 8)
	for s, is := range map[string]bool{"": false, "a": true, "z9_": true, "a_9": true, "az": true, "9a": false, "_a": false, "aB": false, "A": false, long: true, long[:31] + "_": true, long + "a": false, "a-b": false, "a ": false, "a\x00": false, "\xC3\xA9": false, "a\xC3\xA9": false, "a\xFF": false} {
		if value.IsName(s) != is {
			t.Errorf("IsName(%q) = %t", s, !is)
		}
	}
	for i := range 256 {
		b := byte(i)
		letter := strings.IndexByte("abcdefghijklmnopqrstuvwxyz", b) >= 0
		behind := letter || strings.IndexByte("0123456789_", b) >= 0
		if value.IsName(string([]byte{b})) != letter || value.IsName(string([]byte{'a', b})) != behind || value.IsName(string([]byte{'a', b, 'a'})) != behind {
			t.Errorf("names with the byte %x", b)
		}
	}
}

func TestP4_3Compare(t *testing.T) {
	one, two := value.Int(1), value.Int(2)
	// Every value is less than the next one.
	ascending := []V{
		{Kind: math.MinInt, Int: 9}, {Kind: -1}, {}, {Fields: []api.Field{{}}}, {List: []V{{}}}, {Text: "a"}, {Scale: 1}, {Int: 1}, {Kind: api.Bool},
		value.Int(math.MinInt), value.Int(-2), value.Int(-1), value.Int(0), {Kind: api.Int, Fields: []api.Field{field("a", one)}}, {Kind: api.Int, List: []V{one}}, value.Int(9), value.Int(10), value.Int(math.MaxInt),
		value.Decimal(1, 0), value.Decimal(15, 1), value.Decimal(15, 2), value.Decimal(150, 2), value.Text(""), value.Text("B"), value.Text("a"), value.Text("a\x00"), value.Text("aa"), value.Text("b"), value.Text("\xC3\xA9"), value.Text("\xFF"), value.Bytes("a"), value.Date(0), value.Time(0),
		value.List(), value.List(one), value.List(one, one), value.List(one, two), value.List(two), value.List(two, one), value.List(value.Text("")),
		{Kind: api.List, Text: "a"}, {Kind: api.List, Scale: 1}, raw(), raw(field("a", one)), raw(field("a", one), field("a", one)), raw(field("a", two)), raw(field("a", two), field("b", one)), raw(field("a", value.List())), raw(field("aa", one)), raw(field("b", V{})), raw(field("b", one)),
		{Kind: api.Record, List: []V{{}}}, value.Variant("a", one), value.Variant("a", two), value.Variant("b", one), {Kind: api.Variant, Text: "b", List: []V{one}, Fields: []api.Field{{}}}, {Kind: math.MaxInt},
	}
	for i, a := range ascending {
		for j, b := range ascending {
			want := 0
			switch {
			case i < j:
				want = -1
			case i > j:
				want = 1
			}
			if n := value.Compare(a, b); n != want {
				t.Errorf("Compare(%v, %v) = %d", a, b, n)
			}
			if value.Equal(a, b) != (want == 0) {
				t.Errorf("Equal(%v, %v)", a, b)
			}
		}
	}
	if a, b := (V{Kind: api.List, List: []V{}, Fields: []api.Field{}}), value.List(); value.Compare(a, b) != 0 || !value.Equal(b, a) {
		t.Error("nil and empty slices differ")
	}
}

func TestP4_4SizeAndDepth(t *testing.T) {
	one := value.Int(1)
	for i, c := range []struct {
		v           V
		size, depth int
	}{
		{V{}, 1, 1}, {one, 1, 1}, {value.List(), 1, 1}, {raw(), 1, 1}, {value.List(one, one), 3, 2}, {value.List(value.List(one), one), 4, 3}, {value.List(one, nested(2, V{}), one), 6, 4},
		{raw(field("a", one), field("b", value.List(one, one))), 5, 3}, {value.Variant("a", value.Variant("b", one)), 3, 3}, {V{Kind: api.Variant, List: []V{one, one}}, 3, 2}, {V{Kind: api.Variant}, 1, 1},
		{V{Kind: api.Int, List: []V{one}, Fields: []api.Field{field("a", one)}}, 1, 1}, {V{Kind: 11, List: []V{one}, Fields: []api.Field{field("a", one)}}, 1, 1}, {V{List: []V{one}, Fields: []api.Field{field("a", one)}}, 1, 1},
		{V{Kind: api.List, Fields: []api.Field{field("a", one)}}, 1, 1}, {V{Kind: api.Record, List: []V{one}}, 1, 1}, {V{Kind: api.Variant, Fields: []api.Field{field("a", one)}}, 1, 1},
		{copies(1000, copies(10, one)), 11001, 3}, {nested(1<<16, one), 1<<16 + 1, 1<<16 + 1},
	} {
		if n := value.Size(c.v); n != c.size {
			t.Errorf("%d: Size = %d, want %d", i, n, c.size)
		}
		if n := value.Depth(c.v); n != c.depth {
			t.Errorf("%d: Depth = %d, want %d", i, n, c.depth)
		}
	}
}

func TestP4_6Kinds(t *testing.T) {
	one := value.Int(1)
	for i, c := range []struct{ v, want V }{
		{value.Bool(true), V{Kind: 1, Int: 1}}, {value.Bool(false), V{Kind: 1}}, {value.Int(-7), V{Kind: 2, Int: -7}}, {value.Decimal(7, 20), V{Kind: 3, Int: 7, Scale: 20}}, {value.Text("\xFF"), V{Kind: 4, Text: "\xFF"}}, {value.Bytes("a"), V{Kind: 5, Text: "a"}},
		{value.Date(math.MinInt), V{Kind: 6, Int: math.MinInt}}, {value.Time(math.MaxInt), V{Kind: 7, Int: math.MaxInt}}, {value.List(), V{Kind: 8}}, {value.List(one, V{}, one), V{Kind: 8, List: []V{one, {}, one}}}, {value.Variant("A", one), V{Kind: 10, Text: "A", List: []V{one}}}, {value.Variant("", V{}), V{Kind: 10, List: []V{{}}}},
	} {
		if !value.Equal(c.v, c.want) {
			t.Errorf("%d: %v, want %v", i, c.v, c.want)
		}
	}
}

func TestP4_6Record(t *testing.T) {
	one, two, three := value.Int(1), value.Int(2), value.Int(3)
	for i, c := range []struct{ l, want []api.Field }{
		{nil, nil},
		{[]api.Field{field("b", one), field("a", value.Text("x"))}, []api.Field{field("a", value.Text("x")), field("b", one)}},
		{[]api.Field{field("a", one), field("b", two), field("a", three)}, []api.Field{field("a", three), field("b", two)}},
		{[]api.Field{field("a", one), field("a", two), field("a", three)}, []api.Field{field("a", three)}},
		{[]api.Field{field("b", one), field("b", V{}), field("a", V{})}, []api.Field{field("b", one)}},
		{[]api.Field{field("a", V{List: []V{}}), field("b", V{Int: 1})}, []api.Field{field("b", V{Int: 1})}},
		{[]api.Field{field("a", V{}), field("a", one)}, []api.Field{field("a", one)}},
		{[]api.Field{field("b", one), field("", two), field("B", three), field("aa", one), field("a", two)}, []api.Field{field("", two), field("B", three), field("a", two), field("aa", one), field("b", one)}},
	} {
		if v := value.Record(c.l...); !value.Equal(v, raw(c.want...)) {
			t.Errorf("%d: Record(%v) = %v", i, c.l, v)
		}
	}
	many := fields(100)
	turned := slices.Clone(many.Fields)
	slices.Reverse(turned)
	if v := value.Record(turned...); !value.Equal(v, many) {
		t.Errorf("Record of 100 fields = %v", v)
	}
}
