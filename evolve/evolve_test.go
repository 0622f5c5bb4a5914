package evolve_test

import (
	"math"
	"slices"
	"strconv"
	"strings"
	"testing"

	"manifold/api"
	"manifold/evolve"
	"manifold/fit"
	"manifold/schema"
	"manifold/value"
)

type (
	T = api.Type
	V = api.Value
	F = api.TypeField
)

var flag = T{Kind: api.Bool}

func number(least, most int) T    { return T{Kind: api.Int, Min: least, Max: most} }
func amount(s, least, most int) T { return T{Kind: api.Decimal, Scale: s, Min: least, Max: most} }
func text(least, most int) T      { return T{Kind: api.Text, Min: least, Max: most} }
func words(l ...string) T         { return T{Kind: api.Text, Words: l} }
func record(l ...F) T             { return T{Kind: api.Record, Fields: l} }
func variant(l ...F) T            { return T{Kind: api.Variant, Fields: l} }
func bounded(kind, least, most int) T {
	return T{Kind: kind, Min: least, Max: most}
}
func list(least, most int, elem T) T {
	return T{Kind: api.List, Min: least, Max: most, Elem: []T{elem}}
}

func required(n int, name string, t T) F {
	return F{Number: n, Name: name, Need: api.Required, Type: t}
}
func optional(n int, name string, t T) F {
	return F{Number: n, Name: name, Need: api.Optional, Type: t}
}
func defaulted(n int, name string, t T, v V) F {
	return F{Number: n, Name: name, Need: api.Defaulted, Type: t, Default: []V{v}}
}

func at(name string, v V) api.Field { return api.Field{Name: name, Value: v} }

// before and after are the types of the first example of the document.
func before() T {
	return record(required(1, "id", number(0, 99)), optional(2, "note", text(0, 20)))
}

func after() T {
	return record(optional(2, "remark", text(0, 40)), required(1, "id", amount(2, 0, 9999)), defaulted(3, "kind", words("a", "b"), value.Text("a")))
}

// step is a value with its upgrade, which is Null if there is none.
type step struct {
	old, new T
	v, want  V
}

func TestP9_1UpgradeNumbers(t *testing.T) {
	most := api.MaxNumber
	null, i, d := V{}, value.Int, value.Decimal
	for k, c := range []step{
		{number(0, 9), number(0, 9), i(5), i(5)}, {number(0, 9), number(5, 6), i(5), i(5)}, {number(0, 9), number(5, 6), i(6), i(6)}, {number(0, 9), number(5, 6), i(4), null}, {number(0, 9), number(5, 6), i(7), null}, {number(-9, 9), number(-9, 0), i(-9), i(-9)},
		{number(0, 99), amount(2, 0, 9999), i(5), d(500, 2)}, {number(0, 99), amount(0, 0, 9999), i(5), d(5, 0)}, {number(0, 99), amount(2, 0, 499), i(5), null}, {number(-99, 99), amount(1, -70, 0), i(-7), d(-70, 1)}, {number(-99, 99), amount(1, -69, 0), i(-7), null},
		{number(0, most), amount(1, 0, most), i(most), null}, {number(0, most), amount(1, 0, most), i(most / 10), d(most/10*10, 1)}, {number(0, most), amount(1, 0, most), i(most/10 + 1), null}, {number(-most, most), amount(12, -most, most), i(-999), d(-999000000000000, 12)}, {number(-most, most), amount(12, -most, most), i(-1000), null}, {number(0, most), amount(0, 0, most), i(most), d(most, 0)}, {number(-most, most), amount(0, -most, most), i(-most), d(-most, 0)},
		{amount(2, 0, 999), number(0, 9), d(500, 2), i(5)}, {amount(2, 0, 999), number(0, 9), d(501, 2), null}, {amount(2, 0, 999), number(0, 9), d(499, 2), null}, {amount(2, 0, 999), number(0, 9), d(550, 2), null}, {amount(2, 0, 999), number(0, 4), d(500, 2), null}, {amount(2, 0, 999), number(0, 9), d(0, 2), i(0)}, {amount(2, -999, 999), number(-9, 9), d(-300, 2), i(-3)}, {amount(0, 0, 9), number(0, 9), d(3, 0), i(3)}, {amount(12, 0, most), number(0, 999), d(999000000000000, 12), i(999)}, {amount(12, 0, most), number(0, 999), d(1, 12), null},
		{amount(2, 0, 999), amount(1, 0, 99), d(990, 2), d(99, 1)}, {amount(2, 0, 999), amount(1, 0, 99), d(999, 2), null}, {amount(1, 0, 99), amount(2, 0, 999), d(99, 1), d(990, 2)}, {amount(1, 0, 99), amount(2, 0, 989), d(99, 1), null}, {amount(1, 0, 99), amount(1, 0, 99), d(99, 1), d(99, 1)}, {amount(1, 0, 99), amount(1, 0, 98), d(99, 1), null}, {amount(0, 0, most), amount(12, 0, most), d(0, 0), d(0, 12)}, {amount(0, 0, most), amount(12, 0, most), d(most, 0), null},
		{number(0, 1), flag, i(1), null}, {flag, number(0, 1), value.Bool(true), null}, {number(0, 1), bounded(api.Date, 0, 1), i(1), null}, {number(1, 1), text(1, 1), i(1), null},
	} {
		checkUpgrade(t, k, c)
	}
}

func checkUpgrade(t *testing.T, k int, c step) {
	t.Helper()
	w, e := evolve.Upgrade(c.old, c.new, c.v)
	want := api.OK
	if value.IsNull(c.want) {
		want = api.ErrVersion
	}
	if e != want || !value.Equal(w, c.want) {
		t.Errorf("%d: Upgrade(%v) = %v, %d, want %v, %d", k, c.v, w, e, c.want, want)
	}
}

func TestP9_1UpgradeOthers(t *testing.T) {
	null, s := V{}, value.Text
	for k, c := range []step{
		{flag, flag, value.Bool(true), value.Bool(true)}, {flag, flag, value.Bool(false), value.Bool(false)}, {flag, words("a"), value.Bool(true), null}, {text(0, 1), flag, s("a"), null},
		{bounded(api.Bytes, 0, 3), bounded(api.Bytes, 1, 2), value.Bytes("\xFF"), value.Bytes("\xFF")}, {bounded(api.Bytes, 0, 3), bounded(api.Bytes, 1, 2), value.Bytes("abc"), null}, {bounded(api.Bytes, 0, 3), bounded(api.Bytes, 1, 2), value.Bytes(""), null}, {bounded(api.Bytes, 0, 3), text(0, 3), value.Bytes("a"), null}, {text(0, 3), bounded(api.Bytes, 0, 3), s("a"), null},
		{bounded(api.Date, 0, 9), bounded(api.Date, 2, 3), value.Date(2), value.Date(2)}, {bounded(api.Date, 0, 9), bounded(api.Date, 2, 3), value.Date(1), null}, {bounded(api.Date, 0, 9), bounded(api.Date, 2, 3), value.Date(4), null}, {bounded(api.Date, 0, 9), bounded(api.Time, 0, 9), value.Date(2), null}, {bounded(api.Time, 0, 9), bounded(api.Time, 2, 3), value.Time(3), value.Time(3)}, {bounded(api.Time, 0, 9), bounded(api.Time, 2, 3), value.Time(4), null}, {bounded(api.Time, 0, 9), number(0, 9), value.Time(4), null},
		{text(0, 3), text(1, 2), s("ab"), s("ab")}, {text(0, 3), text(1, 2), s("abc"), null}, {text(0, 3), text(1, 2), s(""), null}, {text(0, 3), text(1, 2), s("\xC3\xA9"), s("\xC3\xA9")}, {text(0, 3), words("", "ab"), s("ab"), s("ab")}, {text(0, 3), words("", "ab"), s("a"), null}, {text(0, 3), words("", "ab"), s(""), s("")}, {words("a", "bb"), words("a", "c"), s("a"), s("a")}, {words("a", "bb"), words("a", "c"), s("bb"), null}, {words("a", "bb"), text(2, 3), s("bb"), s("bb")}, {words("a", "bb"), text(2, 3), s("a"), null},
	} {
		checkUpgrade(t, k, c)
	}
}

func TestP9_1UpgradeParts(t *testing.T) {
	null, i, l, r := V{}, value.Int, value.List, value.Record
	n9, n5 := number(0, 9), number(0, 5)
	for k, c := range []step{
		{list(0, 3, n9), list(1, 2, n5), l(i(1), i(5)), l(i(1), i(5))}, {list(0, 3, n9), list(1, 2, n5), l(), null}, {list(0, 3, n9), list(1, 2, n5), l(i(1), i(1), i(1)), null}, {list(0, 3, n9), list(1, 2, n5), l(i(1), i(6)), null}, {list(0, 3, n9), list(0, 2, flag), l(), l()}, {list(0, 3, n9), list(0, 2, flag), l(i(1)), null}, {list(0, 3, n9), list(0, 2, amount(1, 0, 90)), l(i(1), i(9)), l(value.Decimal(10, 1), value.Decimal(90, 1))}, {list(0, 3, n9), n9, l(), null}, {list(0, 2, list(0, 2, n9)), list(0, 2, list(0, 1, n9)), l(l(i(1)), l()), l(l(i(1)), l())}, {list(0, 2, list(0, 2, n9)), list(0, 2, list(0, 1, n9)), l(l(i(1)), l(i(1), i(1))), null},
		{before(), after(), r(at("id", i(5)), at("note", value.Text("x"))), r(at("id", value.Decimal(500, 2)), at("kind", value.Text("a")), at("remark", value.Text("x")))}, {before(), after(), r(at("id", i(99))), r(at("id", value.Decimal(9900, 2)), at("kind", value.Text("a")))}, {after(), before(), r(at("id", value.Decimal(500, 2))), r(at("id", i(5)))}, {after(), before(), r(at("id", value.Decimal(501, 2))), null}, {after(), before(), r(at("id", value.Decimal(500, 2)), at("kind", value.Text("b")), at("remark", value.Text("x"))), r(at("id", i(5)), at("note", value.Text("x")))}, {after(), before(), r(at("id", value.Decimal(500, 2)), at("remark", value.Text(strings.Repeat("x", 21)))), null},
		{record(), record(), r(), r()}, {record(required(1, "a", n9)), record(), r(at("a", i(1))), r()}, {record(), record(required(1, "a", n9)), r(), null}, {record(), record(optional(1, "a", n9)), r(), r()}, {record(), record(defaulted(1, "a", n9, i(7))), r(), r(at("a", i(7)))}, {record(required(2, "a", n9)), record(required(1, "a", n9)), r(at("a", i(1))), null}, {record(required(2, "a", n9)), record(optional(1, "a", n9)), r(at("a", i(1))), r()},
		{record(optional(1, "a", n9)), record(required(1, "b", n9)), r(), null}, {record(optional(1, "a", n9)), record(required(1, "b", n9)), r(at("a", i(3))), r(at("b", i(3)))}, {record(optional(1, "a", n9)), record(optional(1, "b", n9)), r(), r()}, {record(optional(1, "a", n9)), record(defaulted(1, "b", n9, i(7))), r(), r(at("b", i(7)))}, {record(optional(1, "a", n9)), record(defaulted(1, "b", n9, i(7))), r(at("a", i(3))), r(at("b", i(3)))}, {record(optional(1, "a", n9)), record(optional(1, "a", n5)), r(at("a", i(6))), null}, {record(optional(1, "a", n9)), record(defaulted(1, "a", n5, i(5))), r(at("a", i(6))), null},
		{record(defaulted(1, "a", n9, i(4))), record(required(1, "a", n9)), r(), r(at("a", i(4)))}, {record(defaulted(1, "a", n9, i(4))), record(optional(1, "a", n9)), r(), r(at("a", i(4)))}, {record(defaulted(1, "a", n9, i(4))), record(defaulted(1, "a", n9, i(7))), r(), r(at("a", i(4)))}, {record(defaulted(1, "a", n9, i(8))), record(defaulted(1, "a", n5, i(5))), r(), null}, {record(required(1, "a", n9), required(2, "b", n9)), record(required(2, "a", n9), required(1, "b", n9)), r(at("a", i(1)), at("b", i(2))), r(at("a", i(2)), at("b", i(1)))}, {record(required(1, "z", n9), required(2, "a", n9)), record(required(1, "c", n9), required(3, "d", n9)), r(at("a", i(1)), at("z", i(2))), null},
		{record(required(1, "a", before())), record(required(1, "b", after())), r(at("a", r(at("id", i(1))))), r(at("b", r(at("id", value.Decimal(100, 2)), at("kind", value.Text("a")))))}, {record(), variant(required(1, "a", n9)), r(), null}, {variant(required(1, "a", n9)), record(), value.Variant("a", i(1)), null},
		{variant(required(1, "a", n9), required(2, "b", n5)), variant(required(2, "c", n9)), value.Variant("b", i(1)), value.Variant("c", i(1))}, {variant(required(1, "a", n9), required(2, "b", n5)), variant(required(2, "c", n9)), value.Variant("a", i(1)), null}, {variant(required(1, "a", n9)), variant(required(2, "a", n9)), value.Variant("a", i(1)), null}, {variant(required(1, "a", n9), required(2, "b", n9)), variant(required(2, "a", n9), required(1, "b", n9)), value.Variant("a", i(1)), value.Variant("b", i(1))}, {variant(required(1, "a", n9)), variant(required(1, "a", n5)), value.Variant("a", i(6)), null}, {variant(required(1, "a", n9)), variant(required(1, "a", n5)), value.Variant("a", i(5)), value.Variant("a", i(5))}, {variant(required(1, "a", record(defaulted(1, "x", n9, i(3))))), variant(required(1, "a", record(required(1, "y", n9)))), value.Variant("a", r()), value.Variant("a", r(at("y", i(3))))},
	} {
		checkUpgrade(t, k, c)
	}
}

func TestP9_1Errors(t *testing.T) {
	n9 := number(0, 9)
	one := value.Int(1)
	// A list of 255 records, to each of which a default of 16 values is added, which are 4336 values, and one of 240 records.
	many := func(n int) V {
		return V{Kind: api.List, List: slices.Repeat([]V{value.Record()}, n)}
	}
	fifteen := value.List(slices.Repeat([]V{value.Bool(true)}, 15)...)
	records := list(0, 256, record())
	larger := list(0, 256, record(defaulted(1, "a", list(0, 15, flag), fifteen)))
	// 17 lists of 256 elements are too many values, but fit their type.
	vast := V{Kind: api.List, List: slices.Repeat([]V{{Kind: api.List, List: slices.Repeat([]V{one}, 256)}}, 17)}
	lists := list(0, 17, list(0, 256, n9))
	for i, c := range []struct {
		old, new T
		v        V
		e        api.Errno
	}{
		{T{}, T{}, V{}, api.ErrKind}, {number(2, 1), T{}, V{}, api.ErrRange}, {n9, T{}, V{}, api.ErrKind}, {n9, number(2, 1), V{}, api.ErrRange}, {n9, n9, V{}, api.ErrType}, {n9, flag, value.Int(10), api.ErrType}, {n9, flag, one, api.ErrVersion}, {n9, n9, value.Int(10), api.ErrType}, {n9, number(0, 99), value.Int(10), api.ErrType}, {n9, n9, V{Kind: api.Int, Int: 1, Scale: 1}, api.ErrType}, {n9, n9, V{Kind: api.Int, Int: math.MaxInt}, api.ErrType}, {before(), after(), value.Record(at("id", value.Int(100))), api.ErrType}, {before(), after(), value.Record(), api.ErrType}, {before(), after(), value.Record(at("id", one), at("more", one)), api.ErrType},
		{words("b", "a"), T{Kind: api.List}, V{}, api.ErrOrder}, {n9, T{Kind: api.List}, V{}, api.ErrShort},
		{records, larger, many(240), api.OK}, {records, larger, many(241), api.ErrLimit}, {records, larger, many(256), api.ErrLimit}, {records, list(0, 256, record(required(1, "a", flag))), many(256), api.ErrVersion}, {lists, lists, vast, api.ErrLimit}, {record(required(1, "a", lists)), record(), value.Record(at("a", vast)), api.OK}, {lists, list(0, 16, list(0, 256, n9)), vast, api.ErrVersion}, {lists, list(0, 17, list(0, 255, n9)), vast, api.ErrVersion},
	} {
		w, e := evolve.Upgrade(c.old, c.new, c.v)
		if e != c.e || value.IsNull(w) != (e != api.OK) {
			t.Errorf("%d: Upgrade = %d values, %d, want %d", i, value.Size(w), e, c.e)
		}
	}
	if w, _ := evolve.Upgrade(records, larger, many(240)); value.Size(w) != 1+240*17 || value.Check(w) != api.OK {
		t.Errorf("Upgrade of 240 records = %d values", value.Size(w))
	}
}

// versions are two types, and whether they are compatible, and the new one keeps the old one.
type versions struct {
	old, new         T
	fits, isLossless bool
}

func simpleVersions() []versions {
	most := api.MaxNumber
	return []versions{
		{flag, flag, true, true}, {flag, number(0, 1), false, false}, {number(0, 1), flag, false, false}, {bounded(api.Date, 1, 1), bounded(api.Time, 1, 1), false, false}, {text(1, 1), bounded(api.Bytes, 1, 1), false, false}, {list(0, 0, flag), record(), false, false}, {record(), variant(required(1, "a", flag)), false, false},
		{number(0, 9), number(0, 9), true, true}, {number(0, 9), number(-1, 10), true, true}, {number(0, 9), number(1, 9), false, false}, {number(0, 9), number(0, 8), false, false}, {number(0, 9), amount(0, 0, 9), true, true}, {number(0, 9), amount(1, 0, 90), true, true}, {number(0, 9), amount(1, 0, 89), false, false}, {number(-1, 9), amount(1, -10, 90), true, true}, {number(-1, 9), amount(1, -9, 90), false, false},
		{number(0, most), amount(1, 0, most), false, false}, {number(0, most/10), amount(1, 0, most), true, true}, {number(0, most/10+1), amount(1, 0, most), false, false}, {number(-most, 0), amount(1, -most, most), false, false}, {number(most, most), amount(12, -most, most), false, false},
		{amount(0, 0, 9), number(0, 9), true, true}, {amount(2, 100, 100), number(0, 9), true, true}, {amount(2, 150, 150), number(0, 9), false, false}, {amount(2, 1000, 1000), number(0, 9), false, false}, {amount(2, 100, 200), number(0, 9), false, false}, {amount(2, 100, 101), number(0, 9), false, false}, {amount(2, 99, 100), number(0, 9), false, false}, {amount(2, 0, 0), amount(1, 0, 0), true, true}, {amount(2, 10, 10), amount(1, 1, 1), true, true}, {amount(2, 10, 10), amount(1, 2, 2), false, false}, {amount(2, 15, 15), amount(1, 1, 2), false, false}, {amount(1, 1, 9), amount(2, 10, 90), true, true}, {amount(1, 1, 9), amount(2, 11, 90), false, false}, {amount(1, 1, 9), amount(1, 1, 8), false, false},
		{bounded(api.Bytes, 1, 2), bounded(api.Bytes, 0, 2), true, true}, {bounded(api.Bytes, 1, 2), bounded(api.Bytes, 2, 2), false, false}, {bounded(api.Bytes, 1, 2), bounded(api.Bytes, 1, 1), false, false}, {bounded(api.Date, 1, 2), bounded(api.Date, 1, 3), true, true}, {bounded(api.Date, 1, 2), bounded(api.Date, 2, 3), false, false}, {bounded(api.Date, -5, 2), bounded(api.Date, -5, 1), false, false}, {bounded(api.Time, 1, 2), bounded(api.Time, 1, 3), true, true}, {bounded(api.Time, 1, 2), bounded(api.Time, 2, 3), false, false}, {bounded(api.Time, -5, 2), bounded(api.Time, -5, 1), false, false},
		{text(1, 2), text(0, 2), true, true}, {text(1, 2), text(2, 2), false, false}, {text(1, 2), text(1, 1), false, false}, {words("a", "bb"), text(1, 2), true, true}, {words("a", "bb"), text(2, 2), false, false}, {words("a", "bb"), text(1, 1), false, false}, {words("a", "b"), words("a", "b", "c"), true, true}, {words("a", "b"), words("a", "c"), false, false}, {words("a", "b"), words("b"), false, false}, {text(0, 0), words("", "a"), true, true}, {text(0, 0), words("a"), false, false}, {text(0, 1), words("", "a"), false, false}, {text(1, 1), words("", "a"), false, false}, {words(""), text(0, 0), true, true}, {text(1, 1), words(single(64)...), false, false}, {text(2, 1000), words(single(64)...), false, false},
	}
}

// single returns words of one character.
func single(n int) []string {
	var l []string
	for c := range n {
		l = append(l, string(rune(' '+c)))
	}
	return l
}

func nestedVersions() []versions {
	n9, n5, seven, four := number(0, 9), number(0, 5), value.Int(7), value.Int(4)
	a, a5, b := required(1, "a", n9), required(1, "a", n5), required(2, "b", n9)
	opt, def, def5 := optional(1, "a", n9), defaulted(1, "a", n9, seven), defaulted(1, "a", n5, four)
	return []versions{
		{list(1, 2, n9), list(0, 3, n9), true, true}, {list(1, 2, n9), list(2, 2, n9), false, false}, {list(1, 2, n9), list(1, 1, n9), false, false}, {list(1, 2, n9), list(1, 2, n5), false, false}, {list(0, 2, n9), list(0, 2, n5), false, false}, {list(0, 0, n9), list(0, 3, n5), true, true}, {list(0, 0, n9), list(0, 0, flag), true, true}, {list(0, 0, n9), list(1, 3, n9), false, false}, {list(0, 1, n9), list(0, 0, n9), false, false}, {list(0, 1, record(a)), list(0, 1, record()), true, false}, {list(0, 0, record(a)), list(0, 1, record()), true, true}, {list(3, 3, n9), list(3, 3, flag), false, false},
		{record(), record(), true, true}, {record(a), record(a), true, true}, {record(a), record(b), false, false}, {record(a, b), record(b, a), true, true}, {record(a, b), record(a), true, false}, {record(a), record(a, b), false, false}, {record(a), record(a, optional(2, "b", n9)), true, true}, {record(a), record(a, defaulted(2, "b", n9, seven)), true, true}, {record(a), record(required(1, "c", n9)), true, true}, {record(a), record(required(2, "a", n9)), false, false}, {record(a), record(optional(2, "a", n9)), true, false}, {record(a), record(a5), false, false}, {record(a5), record(a), true, true},
		{record(a), record(opt), true, true}, {record(a), record(def), true, true}, {record(opt), record(a), false, false}, {record(opt), record(opt), true, true}, {record(opt), record(def), true, false}, {record(def), record(a), true, true}, {record(def), record(opt), true, true}, {record(def), record(def), true, true}, {record(def), record(def5), false, false}, {record(def5), record(def), true, true}, {record(opt), record(def5), false, false}, {record(opt), record(), true, false}, {record(def), record(), true, false},
		{record(required(1, "a", record(a, b))), record(required(1, "a", record(a))), true, false}, {record(required(1, "a", record(a))), record(required(1, "a", record(a, b))), false, false}, {record(required(1, "a", record(opt))), record(required(1, "a", record(def))), true, false}, {record(a, required(3, "r", record(a))), record(required(3, "r", record(opt)), required(1, "x", amount(1, 0, 90))), true, true}, {record(), record(required(1, "r", record())), false, false},
		{variant(a), variant(a), true, true}, {variant(a, b), variant(b, a), true, true}, {variant(a), variant(a, b), true, true}, {variant(a, b), variant(a), false, false}, {variant(a), variant(required(2, "a", n9)), false, false}, {variant(a), variant(required(1, "c", n9)), true, true}, {variant(a), variant(a5), false, false}, {variant(required(1, "a", record(b))), variant(required(1, "a", record())), true, false}, {variant(b, required(1, "a", record(b))), variant(b, required(1, "a", record(b, opt))), true, true}, {variant(required(1, "a", record(opt))), variant(required(1, "a", record(def))), true, false},
	}
}

func TestP9_2Compatible(t *testing.T) {
	for i, c := range slices.Concat(simpleVersions(), nestedVersions()) {
		if evolve.Compatible(c.old, c.new) != c.fits || evolve.Lossless(c.old, c.new) != c.isLossless {
			t.Errorf("%d: Compatible(%v, %v) = %t, Lossless = %t", i, c.old, c.new, !c.fits, evolve.Lossless(c.old, c.new))
		}
	}
}

func TestP9_3Witness(t *testing.T) {
	for i, c := range slices.Concat(simpleVersions(), nestedVersions()) {
		v, ok := evolve.Witness(c.old, c.new)
		switch {
		case c.fits && (ok || !value.IsNull(v)):
			t.Errorf("%d: Witness = %v, though the types are compatible", i, v)
		case c.fits:
		case !ok || !schema.Accepts(c.old, v):
			t.Errorf("%d: Witness = %v, %t", i, v, ok)
		default:
			if w, e := evolve.Upgrade(c.old, c.new, v); e != api.ErrVersion {
				t.Errorf("%d: Witness = %v, with the upgrade %v, %d", i, v, w, e)
			}
		}
	}
}

// TestP9_3Sizes has types whose values could be too large; the witness is another one then, or none.
func TestP9_3Sizes(t *testing.T) {
	row := list(16, 16, flag) // 17 values
	n9, n5 := number(0, 9), number(0, 5)
	inner := list(256, 256, n9) // 257 values
	// The least value of full, without its first field, consists of 4095 values.
	full := func(l ...F) T {
		return record(append(l, required(8, "y", list(15, 15, list(255, 255, flag))), required(9, "z", list(252, 252, flag)))...)
	}
	for i, c := range []struct {
		old, new T
		ok       bool
	}{
		{full(required(1, "a", n9)), full(required(1, "a", n5)), true}, {full(required(1, "a", n9)), full(required(1, "a", flag)), true}, {full(required(1, "a", n9)), record(required(2, "b", n9)), true}, {full(required(1, "a", n9), optional(2, "b", n9)), record(required(2, "b", n9)), true}, {full(required(1, "a", n9), optional(2, "b", n9)), full(required(1, "a", n9), optional(2, "b", n5)), false}, {full(required(1, "a", list(0, 2, n9))), full(required(1, "a", list(0, 2, n5))), false}, {full(required(1, "a", list(0, 2, n9))), record(required(1, "a", list(1, 2, n9))), true},
		{list(0, 256, row), list(0, 240, row), false}, {list(0, 256, row), list(0, 239, row), true}, {list(0, 256, list(16, 16, n9)), list(0, 240, list(16, 16, n5)), true}, {list(0, 256, row), list(1, 239, row), true}, {list(15, 256, inner), list(0, 256, list(256, 256, n5)), true}, {list(0, 256, inner), list(0, 20, list(256, 256, n5)), true}, {list(0, 256, inner), list(0, 20, inner), false},
		{record(required(1, "a", list(0, 256, row)), required(2, "b", n9)), record(required(1, "a", list(0, 240, row)), required(2, "b", n5)), true}, {record(required(1, "a", list(0, 256, row)), required(2, "b", n9)), record(required(1, "a", list(0, 240, row)), required(2, "b", n9)), false}, {record(required(1, "a", list(0, 256, row)), required(2, "b", list(13, 13, flag))), record(required(1, "a", list(0, 239, row)), required(2, "b", list(13, 13, flag))), true}, {record(required(1, "a", list(0, 256, row)), required(2, "b", list(14, 14, flag))), record(required(1, "a", list(0, 239, row)), required(2, "b", list(14, 14, flag))), false}, {record(optional(1, "a", list(0, 256, row))), record(required(1, "a", list(0, 240, row))), true},
		{variant(required(1, "a", list(0, 256, row)), required(2, "b", n9)), variant(required(1, "a", list(0, 240, row)), required(2, "b", n5)), true}, {variant(required(1, "a", list(0, 256, row)), required(2, "b", n9)), variant(required(1, "a", list(0, 240, row)), required(2, "b", n9)), false}, {variant(required(1, "a", list(0, 256, row)), required(2, "b", n9)), variant(required(2, "b", n5)), true}, {list(1, 1, list(0, 256, row)), list(1, 1, list(0, 240, row)), false}, {list(14, 14, list(0, 256, row)), list(14, 14, list(0, 239, row)), true}, {list(15, 15, list(0, 256, row)), list(15, 15, list(0, 239, row)), true}, {list(16, 16, list(0, 256, row)), list(16, 16, list(0, 239, row)), false},
	} {
		v, ok := evolve.Witness(c.old, c.new)
		if evolve.Compatible(c.old, c.new) || ok != c.ok || ok != schema.Accepts(c.old, v) || !ok && !value.IsNull(v) {
			t.Errorf("%d: Witness = %d values, %t", i, value.Size(v), ok)
		}
		if _, e := evolve.Upgrade(c.old, c.new, v); ok && e != api.ErrVersion {
			t.Errorf("%d: Upgrade: %d", i, e)
		}
	}
}

func TestP9_4Changes(t *testing.T) {
	n9, n5, d := number(0, 9), number(0, 5), amount(1, 0, 90)
	a, b := required(1, "a", n9), required(2, "b", n9)
	inner := func(x T) T {
		return record(required(4, "l", list(0, 3, variant(required(5, "c", record(required(6, "n", x)))))))
	}
	for i, c := range []struct {
		old, new T
		want     string
	}{
		{flag, flag, ""}, {n9, n9, ""}, {n9, n5, ":narrowed"}, {n5, n9, ":widened"}, {n9, number(1, 99), ":narrowed"}, {n9, d, ":widened"}, {d, n9, ":narrowed"}, {amount(0, 0, 9), n9, ":widened"}, {amount(1, 10, 10), number(1, 1), ":widened"}, {amount(1, 10, 10), amount(2, 100, 100), ":widened"}, {amount(1, 0, 10), amount(2, 0, 99), ":narrowed"}, {n9, flag, ":retyped"}, {flag, d, ":retyped"}, {n9, bounded(api.Date, 0, 9), ":retyped"}, {list(0, 1, n9), n9, ":retyped"}, {record(a), variant(a), ":retyped"},
		{text(1, 2), text(1, 3), ":widened"}, {text(1, 2), text(2, 3), ":narrowed"}, {words("a"), words("a", "b"), ":widened"}, {words("a", "b"), words("a"), ":narrowed"}, {words(""), text(0, 0), ":widened"}, {text(0, 0), words(""), ":widened"}, {words("a"), text(1, 1), ":widened"}, {text(1, 1), words("a"), ":narrowed"}, {bounded(api.Bytes, 1, 2), bounded(api.Bytes, 1, 1), ":narrowed"}, {bounded(api.Date, 1, 2), bounded(api.Date, 1, 3), ":widened"}, {bounded(api.Time, 1, 2), bounded(api.Time, 0, 1), ":narrowed"},
		{list(0, 2, n9), list(0, 2, n9), ""}, {list(0, 2, n9), list(0, 3, n9), ":widened"}, {list(0, 2, n9), list(1, 3, n9), ":narrowed"}, {list(0, 2, n9), list(0, 1, n9), ":narrowed"}, {list(0, 2, n9), list(0, 2, n5), "[*]:narrowed"}, {list(0, 2, n9), list(0, 3, n5), ":widened [*]:narrowed"}, {list(0, 2, n5), list(0, 1, n9), ":narrowed [*]:widened"}, {list(0, 2, n9), list(0, 2, flag), "[*]:retyped"}, {list(0, 0, n9), list(0, 0, n5), "[*]:narrowed"}, {list(0, 2, list(0, 1, n9)), list(0, 2, list(0, 2, d)), "[*]:widened [*][*]:widened"}, {list(0, 2, record(a)), list(0, 2, record(a, optional(2, "b", n9))), "[*].b:added"}, {list(0, 2, variant(a)), list(0, 2, variant(a, b)), "[*]?b:added"},
		{before(), after(), "remark:renamed remark:widened id:widened kind:added"}, {after(), before(), "id:narrowed note:renamed note:narrowed kind:removed"}, {record(a, b), record(b, a), ""}, {record(a, b), record(b), "a:removed"}, {record(b), record(a, b), "a:added"}, {record(a), record(b), "b:added a:removed"}, {record(a, b, required(3, "c", n9)), record(required(7, "e", n9), required(9, "d", n9), b), "e:added d:added a:removed c:removed"}, {record(a), record(required(2, "a", n9)), "a:added a:removed"}, {record(a, b), record(required(2, "a", n9), required(1, "b", n9)), "a:renamed b:renamed"},
		{record(a), record(optional(1, "a", n9)), "a:needed"}, {record(optional(1, "a", n9)), record(a), "a:needed"}, {record(a), record(defaulted(1, "a", n9, value.Int(1))), "a:needed"}, {record(defaulted(1, "a", n9, value.Int(1))), record(defaulted(1, "a", n9, value.Int(2))), ""}, {record(defaulted(1, "a", n9, value.Int(1))), record(defaulted(1, "a", n5, value.Int(2))), "a:narrowed"}, {record(a), record(optional(1, "x", n5)), "x:renamed x:needed x:narrowed"}, {record(a), record(optional(1, "x", flag)), "x:renamed x:needed x:retyped"}, {record(required(1, "a", record(b))), record(required(1, "x", record(required(2, "y", n5), optional(3, "z", flag)))), "x:renamed x.y:renamed x.y:narrowed x.z:added"}, {record(required(1, "a", record(b))), record(required(1, "x", record())), "x:renamed x.b:removed"},
		{variant(a), variant(b, a), "?b:added"}, {variant(a, b), variant(b), "?a:removed"}, {variant(a), variant(required(1, "x", n5)), "?x:renamed ?x:narrowed"}, {variant(required(1, "a", record(b))), variant(required(1, "x", record(required(2, "y", n9)))), "?x:renamed ?x.y:renamed"}, {inner(n9), inner(n5), "l[*]?c.n:narrowed"}, {inner(n9), inner(flag), "l[*]?c.n:retyped"}, {inner(list(0, 1, n9)), inner(list(0, 1, n5)), "l[*]?c.n[*]:narrowed"}, {record(required(1, "v", variant(a))), record(required(1, "v", variant(b))), "v?b:added v?a:removed"},
	} {
		l, e := evolve.Changes(c.old, c.new)
		var got []string
		for _, x := range l {
			got = append(got, x.Path+":"+evolve.Name(x.Kind))
		}
		if e != api.OK || strings.Join(got, " ") != c.want {
			t.Errorf("%d: Changes = %v, %d, want %s", i, got, e, c.want)
		}
	}
}

func TestP9_5Name(t *testing.T) {
	for kind, name := range map[int]string{evolve.Added: "added", evolve.Removed: "removed", evolve.Renamed: "renamed", evolve.Needed: "needed", evolve.Retyped: "retyped", evolve.Widened: "widened", evolve.Narrowed: "narrowed", 0: "", 8: "", -1: "", math.MaxInt: "", math.MinInt: ""} {
		if got := evolve.Name(kind); got != name {
			t.Errorf("Name(%d) = %q", kind, got)
		}
	}
	for kind, name := range []string{"", "added", "removed", "renamed", "needed", "retyped", "widened", "narrowed"} {
		if got := evolve.Name(kind); got != name {
			t.Errorf("Name(%d) = %q, want %q", kind, got, name)
		}
	}
}

func TestP9Invalid(t *testing.T) {
	good := record(required(1, "a", number(1, 2)))
	deep := flag
	for range 1 << 16 {
		deep = list(0, 1, deep)
	}
	for i, c := range []struct {
		old, new T
		e        api.Errno
	}{
		{T{}, good, api.ErrKind}, {good, T{}, api.ErrKind}, {T{}, T{}, api.ErrKind}, {number(2, 1), T{}, api.ErrRange}, {T{}, number(2, 1), api.ErrKind}, {number(2, 1), number(2, 1), api.ErrRange}, {deep, good, api.ErrDepth}, {good, deep, api.ErrDepth}, {words("a", "a"), deep, api.ErrDuplicate}, {record(required(0, "a", flag)), good, api.ErrRange}, {record(required(1, "a", flag), required(1, "b", flag)), good, api.ErrDuplicate}, {good, record(required(1, "a", flag), required(1, "b", flag)), api.ErrDuplicate}, {list(16, 16, list(256, 256, flag)), good, api.ErrLimit},
	} {
		w, e := evolve.Upgrade(c.old, c.new, value.Record())
		v, ok := evolve.Witness(c.old, c.new)
		l, f := evolve.Changes(c.old, c.new)
		if e != c.e || f != c.e || ok || !value.IsNull(w) || !value.IsNull(v) || len(l) != 0 || evolve.Compatible(c.old, c.new) || evolve.Lossless(c.old, c.new) {
			t.Errorf("%d: Upgrade: %d; Witness: %v, %t; Changes: %v, %d", i, e, v, ok, l, f)
		}
	}
}

// TestP9_4Long has as many changes as two types can have, at long paths.
func TestP9_4Long(t *testing.T) {
	old, new := number(0, 9), number(0, 5)
	path := ""
	for range 6 {
		name := strings.Repeat("x", 32)
		old, new = record(required(1, name, old)), record(required(1, name, new))
		path += "." + name
	}
	l, e := evolve.Changes(old, new)
	if e != api.OK || len(l) != 1 || l[0] != (evolve.Change{Path: path[1:], Kind: evolve.Narrowed}) {
		t.Errorf("Changes = %v, %d", l, e)
	}
	var before, after []F
	for i := range 64 {
		before = append(before, required(i+1, "a"+strconv.Itoa(i), flag))
		after = append(after, required(i+101, "a"+strconv.Itoa(i), flag))
	}
	if l, e := evolve.Changes(record(before...), record(after...)); e != api.OK || len(l) != 128 {
		t.Errorf("%d changes, %d", len(l), e)
	}
}

func TestP9_6WitnessFits(t *testing.T) {
	v, ok := evolve.Witness(after(), before())
	if !ok || !fit.Fits(after(), v) {
		t.Errorf("Witness = %v, %t", v, ok)
	}
}
