package schema_test

import (
	"slices"
	"testing"

	"manifold/api"
	"manifold/path"
	"manifold/schema"
	"manifold/value"
)

func mustParse(t *testing.T, s string) []path.Part {
	t.Helper()
	l, e := path.Parse(s)
	if e != api.OK {
		t.Fatalf("Parse(%q): %d", s, e)
	}
	return l
}

func TestP6_5At(t *testing.T) {
	rows := list(2, 3, list(0, 2, digit))
	x := record(required(1, "n", digit), optional(2, "o", record(required(1, "p", digit))), defaulted(3, "d", words, value.Text("gold")), required(4, "l", rows), required(5, "one", variant(required(1, "a", flag))), required(6, "two", variant(required(1, "a", flag), required(2, "b", list(1, 1, short)))), required(7, "none", list(0, 0, flag)))
	for _, c := range []struct {
		s      string
		want   T
		absent bool
		e      api.Errno
	}{
		{"n", digit, false, api.OK}, {"o", x.Fields[1].Type, true, api.OK}, {"o.p", digit, true, api.OK}, {"d", words, false, api.OK}, {"l", rows, false, api.OK},
		{"l[0]", rows.Elem[0], false, api.OK}, {"l[1]", rows.Elem[0], false, api.OK}, {"l[2]", rows.Elem[0], true, api.OK}, {"l[*]", rows.Elem[0], false, api.OK}, {"l[0][0]", digit, true, api.OK}, {"l[*][*]", digit, true, api.OK}, {"l[2][0]", digit, true, api.OK},
		{"one?a", flag, false, api.OK}, {"two?a", flag, true, api.OK}, {"two?b", x.Fields[5].Type.Fields[1].Type, true, api.OK}, {"two?b[0]", short, true, api.OK}, {"none[*]", flag, true, api.OK},
		{"l[3]", T{}, false, api.ErrRange}, {"l[255]", T{}, false, api.ErrRange}, {"l[0][2]", T{}, false, api.ErrRange}, {"none[0]", T{}, false, api.ErrRange}, {"x", T{}, false, api.ErrField}, {"o.x", T{}, false, api.ErrField}, {"one?b", T{}, false, api.ErrField}, {"two?b[1]", T{}, false, api.ErrRange},
		{"n.x", T{}, false, api.ErrKind}, {"n[0]", T{}, false, api.ErrKind}, {"n[*]", T{}, false, api.ErrKind}, {"n?a", T{}, false, api.ErrKind}, {"l.x", T{}, false, api.ErrKind}, {"l?a", T{}, false, api.ErrKind}, {"o[0]", T{}, false, api.ErrKind}, {"o?p", T{}, false, api.ErrKind}, {"one.a", T{}, false, api.ErrKind}, {"one[0]", T{}, false, api.ErrKind}, {"one[*]", T{}, false, api.ErrKind},
		{"x.y", T{}, false, api.ErrField}, {"l[3].x", T{}, false, api.ErrRange}, {"n.x[9]", T{}, false, api.ErrKind}, {"l[9]?x", T{}, false, api.ErrRange}, {"o.p.q", T{}, false, api.ErrKind},
	} {
		if out, absent, e := schema.At(x, mustParse(t, c.s)); !schema.Equal(out, c.want) || absent != c.absent || e != c.e {
			t.Errorf("At(%q) = %v, %t, %d, want %v, %t, %d", c.s, out, absent, e, c.want, c.absent, c.e)
		}
	}
}

func TestP6_5Errors(t *testing.T) {
	n := mustParse(t, "n")
	for i, c := range []struct {
		t T
		l []path.Part
		e api.Errno
	}{
		{T{}, nil, api.ErrKind}, {T{Kind: api.Int, Min: 1}, n, api.ErrRange}, {record(required(1, "n", digit), required(2, "m", T{})), n, api.ErrKind}, {example(), nil, api.ErrFormat}, {example(), []path.Part{{Kind: path.All}}, api.ErrFormat}, {example(), []path.Part{{Kind: path.Field, Name: "N"}}, api.ErrFormat}, {example(), []path.Part{{Kind: path.Field, Name: "n"}, {Kind: 5}}, api.ErrFormat}, {example(), []path.Part{{Kind: path.Field, Name: "l"}, {Kind: path.Index, Index: -1}}, api.ErrFormat},
		{digit, n, api.ErrKind}, {list(0, 1, flag), n, api.ErrKind}, {variant(required(1, "n", flag)), n, api.ErrKind}, {record(), n, api.ErrField}, {digit, nil, api.ErrFormat},
	} {
		if out, absent, e := schema.At(c.t, c.l); !schema.Equal(out, T{}) || absent || e != c.e {
			t.Errorf("%d: At = %v, %t, %d, want %d", i, out, absent, e, c.e)
		}
	}
}

func TestP6_6Leaves(t *testing.T) {
	for i, c := range []struct {
		t    T
		want []string
	}{
		{example(), []string{"n", "l[*]", "w", "c?cash", "c?card.holder"}}, {record(required(1, "a", list(0, 0, list(1, 1, flag))), optional(2, "b", record()), required(3, "c", variant(required(1, "d", record(required(1, "e", flag), required(2, "f", flag))), required(2, "g", list(1, 1, record(required(1, "h", words)))))), defaulted(4, "i", flag, value.Bool(false))), []string{"a[*][*]", "b", "c?d.e", "c?d.f", "c?g[*].h", "i"}},
		{record(required(1, "b", flag), required(2, "a", flag)), []string{"b", "a"}}, {T{}, nil}, {record(required(1, "a", flag), required(2, "b", T{})), nil}, {list(0, 1, list(64, 64, list(64, 64, flag))), nil}, {variant(), nil},
	} {
		var got []string
		for _, l := range schema.Leaves(c.t) {
			s, e := path.Text(l)
			if e != api.OK {
				t.Errorf("%d: no path: %v", i, l)
			}
			got = append(got, s)
		}
		if !slices.Equal(got, c.want) {
			t.Errorf("%d: Leaves = %q, want %q", i, got, c.want)
		}
	}
	for i, c := range []struct {
		t    T
		want [][]path.Part
	}{
		{flag, [][]path.Part{{}}}, {words, [][]path.Part{{}}}, {record(), [][]path.Part{{}}}, {list(0, 1, flag), [][]path.Part{{{Kind: path.All}}}}, {variant(required(1, "a", flag), required(2, "b", list(0, 1, digit))), [][]path.Part{{{Kind: path.Case, Name: "a"}}, {{Kind: path.Case, Name: "b"}, {Kind: path.All}}}},
	} {
		if got := schema.Leaves(c.t); !slices.EqualFunc(got, c.want, slices.Equal[[]path.Part]) {
			t.Errorf("%d: Leaves = %v, want %v", i, got, c.want)
		}
	}
}

func TestP6_6SizeAndDepth(t *testing.T) {
	for i, c := range []struct {
		t           T
		size, depth int
	}{
		{flag, 1, 1}, {example(), 9, 4}, {record(), 1, 1}, {list(0, 1, flag), 2, 2}, {nested(100, flag), 101, 101},
		// Types that are not valid have sizes, too.
		{T{}, 1, 1}, {T{Kind: api.List}, 1, 1}, {T{Kind: api.List, Elem: []T{flag, list(0, 1, flag), {}}}, 5, 3}, {T{Kind: api.Bool, Elem: []T{flag}, Fields: many(2, flag)}, 1, 1}, {T{Kind: api.List, Elem: []T{flag}, Fields: many(2, list(0, 1, flag))}, 2, 2}, {T{Kind: api.Record, Elem: []T{list(0, 1, flag)}, Fields: many(2, flag)}, 3, 2}, {T{Kind: api.Variant, Elem: []T{flag}}, 1, 1}, {T{Kind: 11, Elem: []T{flag}, Fields: many(2, flag)}, 1, 1}, {record(many(5000, T{})...), 5001, 2}, {T{Kind: api.Variant, Fields: []F{{Type: list(0, 1, flag)}, {Type: flag}}}, 4, 3},
	} {
		if size, depth := schema.Size(c.t), schema.Depth(c.t); size != c.size || depth != c.depth {
			t.Errorf("%d: Size = %d, Depth = %d, want %d, %d", i, size, depth, c.size, c.depth)
		}
	}
}
