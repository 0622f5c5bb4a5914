package value_test

import (
	"math/rand"
	"reflect"
	"testing"

	"manifold/api"
	"manifold/value"
)

var names = []string{"a", "a0", "aa", "b", "c_", "d"}

// valid returns a valid value with at most a number of levels.
func valid(r *rand.Rand, levels int) V {
	kind := 1 + r.Intn(10)
	if levels == 1 {
		kind = 1 + r.Intn(7)
	}
	switch kind {
	case api.Bool:
		return value.Bool(r.Intn(2) == 0)
	case api.Decimal:
		return value.Decimal(r.Intn(3), r.Intn(3))
	case api.Text:
		return value.Text([]string{"", "a", "b", "\xC3\xA9"}[r.Intn(4)])
	case api.Bytes:
		return value.Bytes([]string{"", "a", "\xFF"}[r.Intn(3)])
	case api.List:
		v := V{Kind: api.List}
		for range r.Intn(4) {
			v.List = append(v.List, valid(r, levels-1))
		}
		return v
	case api.Record:
		return record(r, levels)
	case api.Variant:
		return V{Kind: api.Variant, Text: names[r.Intn(len(names))], List: []V{valid(r, levels-1)}}
	}
	return V{Kind: kind, Int: r.Intn(5) - 2}
}

// record returns a valid record with at most a number of levels.
func record(r *rand.Rand, levels int) V {
	v := V{Kind: api.Record}
	for _, name := range names {
		if r.Intn(2) == 0 {
			v.Fields = append(v.Fields, field(name, valid(r, levels-1)))
		}
	}
	return v
}

// wild returns a value, valid or not.
func wild(r *rand.Rand, levels int) V {
	if r.Intn(3) == 0 {
		return valid(r, levels)
	}
	v := V{Kind: r.Intn(13) - 1}
	if r.Intn(3) == 0 {
		v.Int = r.Intn(3) - 1
	}
	if r.Intn(3) == 0 {
		v.Scale = r.Intn(3) - 1
	}
	if r.Intn(3) == 0 {
		v.Text = []string{"a", "\xFF"}[r.Intn(2)]
	}
	for range r.Intn(3) * min(levels-1, 1) {
		v.List = append(v.List, wild(r, levels-1))
	}
	for range r.Intn(3) * min(levels-1, 1) {
		v.Fields = append(v.Fields, field([]string{"", "a", "b"}[r.Intn(3)], wild(r, levels-1)))
	}
	return v
}

// image returns a value that shares nothing with v and is deeply equal only to images of equal values.
func image(v V) V {
	out := V{Kind: v.Kind, Int: v.Int, Scale: v.Scale, Text: v.Text}
	for _, x := range v.List {
		out.List = append(out.List, image(x))
	}
	for _, f := range v.Fields {
		out.Fields = append(out.Fields, field(f.Name, image(f.Value)))
	}
	return out
}

// spoil overwrites all the memory of a value.
func spoil(v V) {
	for i := range v.List {
		spoil(v.List[i])
		v.List[i] = V{Kind: -7}
	}
	for i := range v.Fields {
		spoil(v.Fields[i].Value)
		v.Fields[i] = field("spoiled", V{Kind: -7})
	}
}

func TestP4_4Clone(t *testing.T) {
	r := rand.New(rand.NewSource(1))
	for range 5000 {
		v := wild(r, 4)
		before := image(v)
		c := value.Clone(v)
		if !value.Equal(c, v) || !reflect.DeepEqual(image(c), before) {
			t.Fatalf("Clone(%v) = %v", v, c)
		}
		spoil(c)
		if !reflect.DeepEqual(image(v), before) {
			t.Fatalf("the clone of %v shares memory with it", before)
		}
	}
}

func TestP4_4SizeOfParts(t *testing.T) {
	r := rand.New(rand.NewSource(2))
	for range 5000 {
		v := wild(r, 4)
		size, depth := 1, 1
		parts := v.List
		switch v.Kind {
		case api.Record:
			parts = nil
			for _, f := range v.Fields {
				parts = append(parts, f.Value)
			}
		case api.List, api.Variant:
		default:
			parts = nil
		}
		for _, x := range parts {
			size += value.Size(x)
			depth = max(depth, 1+value.Depth(x))
		}
		if value.Size(v) != size || value.Depth(v) != depth {
			t.Fatalf("Size(%v) = %d, Depth = %d", v, value.Size(v), value.Depth(v))
		}
	}
}

func TestP4_7TotalOrder(t *testing.T) {
	r := rand.New(rand.NewSource(3))
	for range 50000 {
		a, b, c := wild(r, 3), wild(r, 3), wild(r, 3)
		ab, bc := value.Compare(a, b), value.Compare(b, c)
		if value.Compare(a, a) != 0 || value.Compare(b, a) != -ab || ab <= 0 && bc <= 0 && value.Compare(a, c) > 0 {
			t.Fatalf("the order of %v, %v, %v", a, b, c)
		}
		if same := reflect.DeepEqual(image(a), image(b)); value.Equal(a, b) != same || (ab == 0) != same {
			t.Fatalf("Equal(%v, %v) = %t", a, b, !same)
		}
	}
}

func TestP4_7Valid(t *testing.T) {
	r := rand.New(rand.NewSource(4))
	for range 5000 {
		if v := valid(r, 5); value.Check(v) != api.OK {
			t.Fatalf("Check(%v) = %d", v, value.Check(v))
		}
	}
}

func TestP4_7With(t *testing.T) {
	r := rand.New(rand.NewSource(5))
	for range 20000 {
		v, x, name := record(r, 4), valid(r, 3), names[r.Intn(len(names))]
		w, e := value.With(v, name, x)
		if y, has := value.Field(w, name); e != api.OK || !has || !value.Equal(x, y) || value.Check(w) != api.OK {
			t.Fatalf("With(%v, %s, %v) = %v, %d", v, name, x, w, e)
		}
		for _, other := range names {
			a, before := value.Field(v, other)
			b, after := value.Field(w, other)
			if other != name && (before != after || !value.Equal(a, b)) {
				t.Fatalf("With(%v, %s, %v) has changed %s", v, name, x, other)
			}
		}
		out, e := value.Without(w, name)
		want, f := value.Without(v, name)
		if f == api.ErrNotFound {
			want = v
		}
		if e != api.OK || !value.Equal(out, want) {
			t.Fatalf("Without(%v, %s) = %v, %d", w, name, out, e)
		}
	}
}

// TestP4_7Memory calls every function that returns values, and checks that neither the arguments nor, when the results are overwritten, anything that they share memory with has changed.
func TestP4_7Memory(t *testing.T) {
	calls := []func(v, x V) V{
		func(v, x V) V { w, _ := value.Field(v, "a"); return w },
		func(v, x V) V { w, _ := value.With(v, "a", x); return w },
		func(v, x V) V { w, _ := value.With(v, "ab", x); return w },
		func(v, x V) V { w, _ := value.Without(v, "a"); return w },
		func(v, x V) V { w, _ := value.Without(v, "d"); return w },
		func(v, x V) V { return value.List(v, x) },
		func(v, x V) V { return value.Record(field("b", v), field("a", x), field("b", x)) },
		func(v, x V) V { return value.Record(v.Fields...) },
		func(v, x V) V { return value.List(v.List...) },
		func(v, x V) V { return value.Variant("a", v) },
		func(v, x V) V { return value.Clone(v) },
	}
	r := rand.New(rand.NewSource(6))
	for range 3000 {
		v, x := wild(r, 4), valid(r, 3)
		if r.Intn(2) == 0 {
			v = record(r, 4)
		}
		before, beside := image(v), image(x)
		for i, call := range calls {
			w := call(v, x)
			if !reflect.DeepEqual(image(v), before) || !reflect.DeepEqual(image(x), beside) {
				t.Fatalf("call %d has changed an argument of %v, %v", i, before, beside)
			}
			spoil(w)
			if !reflect.DeepEqual(image(v), before) || !reflect.DeepEqual(image(x), beside) {
				t.Fatalf("the result of call %d shares memory with %v or %v", i, before, beside)
			}
		}
		value.Check(v)
		value.Compare(v, x)
		value.Size(v)
		if !reflect.DeepEqual(image(v), before) {
			t.Fatalf("%v has been changed", before)
		}
	}
}

// TestP4_7Spare checks that what lies behind the fields and elements of an argument is left alone.
func TestP4_7Spare(t *testing.T) {
	one, two := value.Int(1), value.Int(2)
	behind := []api.Field{field("b", one), field("d", two), field("e", one), field("f", one)}
	v := V{Kind: api.Record, Fields: behind[:2]}
	for _, name := range []string{"a", "c", "z", "b"} {
		value.With(v, name, two)
		value.Without(v, name)
		value.Record(v.Fields...)
	}
	if !value.Equal(raw(behind...), raw(field("b", one), field("d", two), field("e", one), field("f", one))) {
		t.Errorf("the memory of the argument is %v", behind)
	}
}

// TestP4_7Twice checks that no two slices of one result share memory, even if those of an argument do.
func TestP4_7Twice(t *testing.T) {
	x := value.List(value.Int(1))
	for i, v := range []V{value.List(x, x), value.Clone(V{Kind: api.List, List: []V{x, x}}), value.Record(field("a", x), field("b", x))} {
		first, second := V{}, V{}
		if v.Kind == api.List {
			first, second = v.List[0], v.List[1]
		} else {
			first, second = v.Fields[0].Value, v.Fields[1].Value
		}
		spoil(first)
		if !value.Equal(second, x) {
			t.Errorf("%d: the parts share memory", i)
		}
	}
}

func TestP4_7Deep(t *testing.T) {
	v, w := nested(1<<16, value.Int(1)), nested(1<<16, value.Int(2))
	if value.Compare(v, w) != -1 || value.Compare(w, v) != 1 || !value.Equal(value.Clone(v), v) {
		t.Error("the order of deep values")
	}
}
