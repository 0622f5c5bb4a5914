package path_test

import (
	"math/rand"
	"slices"
	"testing"

	"manifold/api"
	"manifold/path"
	"manifold/value"
)

var names = []string{"a", "b", "c"}

// valid returns a valid value with at most a number of levels.
func valid(r *rand.Rand, levels int) V {
	if levels == 1 || r.Intn(4) == 0 {
		return value.Int(r.Intn(3))
	}
	switch r.Intn(3) {
	case 0:
		v := V{Kind: api.List}
		for range r.Intn(4) {
			v.List = append(v.List, valid(r, levels-1))
		}
		return v
	case 1:
		return V{Kind: api.Variant, Text: names[r.Intn(3)], List: []V{valid(r, levels-1)}}
	}
	return record(r, levels)
}

// record returns a valid record with at most a number of levels.
func record(r *rand.Rand, levels int) V {
	v := raw()
	for _, name := range names {
		if r.Intn(3) > 0 {
			v.Fields = append(v.Fields, field(name, valid(r, levels-1)))
		}
	}
	return v
}

// wild returns a record some parts of which are not valid.
func wild(r *rand.Rand, levels int) V {
	v := record(r, levels)
	v.Fields = append(v.Fields, field("b", valid(r, levels-1)), field(names[r.Intn(3)], V{Kind: api.Variant, Text: "a", List: []V{valid(r, 2), valid(r, 2)}}))
	if r.Intn(2) == 0 {
		slices.Reverse(v.Fields)
	}
	return v
}

// somePath returns a path whose parts are often those of a leaf of v.
func somePath(r *rand.Rand, v V, all bool) []P {
	l := []P{name(names[r.Intn(3)])}
	if leaves := path.Leaves(v); len(leaves) > 0 && r.Intn(4) > 0 {
		l = leaves[r.Intn(len(leaves))]
		l = l[:1+r.Intn(len(l))]
	}
	for range r.Intn(3) {
		l = append(l, []P{name(names[r.Intn(3)]), of(names[r.Intn(3)]), at(r.Intn(3))}[r.Intn(3)])
	}
	for i := range l {
		if all && l[i].Kind == path.Index && r.Intn(2) == 0 {
			l[i] = each
		}
	}
	return l
}

// follow returns the values at a path, and whether it applies, depth first.
func follow(v V, l []P) ([]V, bool) {
	if len(l) == 0 {
		return []V{v}, true
	}
	var next []V
	applies := false
	switch p := l[0]; p.Kind {
	case path.Field:
		applies = v.Kind == api.Record
		for i := 0; applies && i < len(v.Fields) && next == nil; i++ {
			if v.Fields[i].Name == p.Name {
				next = []V{v.Fields[i].Value}
			}
		}
	case path.Index:
		applies = v.Kind == api.List
		if applies && p.Index < len(v.List) {
			next = []V{v.List[p.Index]}
		}
	case path.All:
		applies = v.Kind == api.List
		if applies {
			next = v.List
		}
	case path.Case:
		applies = v.Kind == api.Variant && len(v.List) == 1
		if applies && v.Text == p.Name {
			next = v.List
		}
	}
	var out []V
	for _, x := range next {
		found, ok := follow(x, l[1:])
		applies = applies && ok
		out = append(out, found...)
	}
	return out, applies
}

// sample calls f with values and paths of all sorts.
func sample(seed int64, all bool, f func(v V, l []P)) {
	r := rand.New(rand.NewSource(seed))
	for i := range 30000 {
		v := record(r, 5)
		if i%3 == 0 {
			v = wild(r, 5)
		}
		f(v, somePath(r, v, all))
	}
}

func TestP5_2Follow(t *testing.T) {
	seen := map[api.Errno]int{}
	sample(1, true, func(v V, l []P) {
		found, applies := follow(v, l)
		all := slices.Contains(l, each)
		want := api.OK
		switch {
		case !applies:
			found, want = nil, api.ErrPath
		case len(found) == 0 && !all:
			want = api.ErrAbsent
		}
		seen[want]++
		if x, e := path.Find(v, l); !slices.EqualFunc(x, found, value.Equal) || e != want {
			t.Fatalf("Find(%v, %v) = %v, %d, want %v, %d", v, l, x, e, found, want)
		}
		one := V{}
		switch {
		case want == api.OK && all:
			one = V{Kind: api.List, List: found}
		case want == api.OK:
			one = found[0]
		}
		if x, e := path.Get(v, l); !value.Equal(x, one) || e != want {
			t.Fatalf("Get(%v, %v) = %v, %d, want %v, %d", v, l, x, e, one, want)
		}
	})
	if seen[api.OK] < 3000 || seen[api.ErrPath] < 3000 || seen[api.ErrAbsent] < 1000 {
		t.Errorf("the sample has %v", seen)
	}
}

func TestP5_7Set(t *testing.T) {
	set := 0
	sample(2, false, func(v V, l []P) {
		x := value.Text("new")
		w, e := path.Set(v, l, x)
		if e != api.OK {
			return
		}
		set++
		if y, f := path.Get(w, l); f != api.OK || !value.Equal(x, y) {
			t.Fatalf("Get(%v, %v) = %v, %d", w, l, y, f)
		}
		for _, other := range path.Leaves(v) {
			if path.Covers(l, other) || path.Covers(other, l) {
				continue
			}
			a, f := path.Get(v, other)
			b, g := path.Get(w, other)
			if (f == api.OK) != (g == api.OK) || !value.Equal(a, b) {
				t.Fatalf("Set(%v, %v) has changed %v", v, l, other)
			}
		}
		old, f := path.Get(v, l)
		back, g := path.Set(w, l, old)
		if f == api.OK {
			same, h := path.Set(v, l, old)
			if g != api.OK || !value.Equal(back, v) || h != api.OK || !value.Equal(same, v) {
				t.Fatalf("setting the old value of %v in %v: %v, %v", l, v, back, same)
			}
			return
		}
		parent := l[:len(l)-1]
		_, f = path.Get(v, parent)
		back, g = path.Delete(w, l)
		if (len(parent) == 0 || f == api.OK) && (g != api.OK || !value.Equal(back, v)) {
			t.Fatalf("deleting %v, which was added to %v: %v, %d", l, v, back, g)
		}
	})
	if set < 5000 {
		t.Errorf("only %d paths of the sample can be set", set)
	}
}

func TestP5_7Delete(t *testing.T) {
	deleted := 0
	sample(3, false, func(v V, l []P) {
		w, e := path.Delete(v, l)
		_, f := path.Get(v, l)
		if l[len(l)-1].Kind == path.Case {
			f = api.ErrFormat
		}
		if e != f {
			t.Fatalf("Delete(%v, %v) = %d, want %d", v, l, e, f)
		}
		if e != api.OK {
			return
		}
		deleted++
		parent := l[:len(l)-1]
		before, after := v, w
		if len(parent) > 0 {
			before, _ = path.Get(v, parent)
			after, _ = path.Get(w, parent)
			if x, _ := path.Set(w, parent, before); !value.Equal(x, v) {
				t.Fatalf("Delete(%v, %v) has changed more than %v", v, l, parent)
			}
		}
		if len(after.Fields)+len(after.List) != len(before.Fields)+len(before.List)-1 {
			t.Fatalf("Delete(%v, %v) = %v", v, l, w)
		}
	})
	if deleted < 5000 {
		t.Errorf("only %d paths of the sample can be deleted", deleted)
	}
}

func TestP5_7Leaves(t *testing.T) {
	r := rand.New(rand.NewSource(4))
	for range 5000 {
		v := record(r, 6)
		seen := map[string]bool{}
		for _, l := range path.Leaves(v) {
			s, e := path.Text(l)
			x, f := path.Get(v, l)
			if e != api.OK || f != api.OK || seen[s] || value.Size(x) != 1 {
				t.Fatalf("the leaf %v of %v: %v, %d, %d", l, v, x, e, f)
			}
			seen[s] = true
		}
		leaves := 0
		var count func(x V)
		count = func(x V) {
			for _, y := range x.List {
				count(y)
			}
			for _, f := range x.Fields {
				count(f.Value)
			}
			if len(x.List)+len(x.Fields) == 0 {
				leaves++
			}
		}
		if count(v); leaves != len(seen) && len(v.Fields) > 0 {
			t.Fatalf("%v has %d leaves, but %d were found", v, leaves, len(seen))
		}
	}
}

func TestP5_7ParseAndText(t *testing.T) {
	r := rand.New(rand.NewSource(5))
	for range 20000 {
		l := []P{name(names[r.Intn(3)])}
		for range r.Intn(20) {
			l = append(l, []P{name("b_" + names[r.Intn(3)]), of(names[r.Intn(3)]), at(r.Intn(260)), each}[r.Intn(4)])
		}
		s, e := path.Text(l)
		if e != path.Check(l) {
			t.Fatalf("Text(%v) = %d", l, e)
		}
		if e != api.OK {
			continue
		}
		if back, f := path.Parse(s); f != api.OK || !slices.Equal(back, l) {
			t.Fatalf("Parse(%q) = %v, %d, want %v", s, back, f, l)
		}
	}
}

// spoil overwrites all the memory of a value.
func spoil(v V) {
	for i := range v.List {
		spoil(v.List[i])
		v.List[i] = V{Kind: -7}
	}
	for i := range v.Fields {
		spoil(v.Fields[i].Value)
		v.Fields[i] = field("spoiled", V{Kind: -7})
	}
}

// TestP5_7Memory overwrites results, and checks that neither they nor the calls have changed the arguments.
func TestP5_7Memory(t *testing.T) {
	x := value.List(value.List(value.Int(8)), raw(field("a", value.Int(9))))
	wantX := value.Clone(x)
	sample(6, true, func(v V, l []P) {
		before, beforeL := value.Clone(v), slices.Clone(l)
		got, _ := path.Get(v, l)
		spoil(got)
		found, _ := path.Find(v, l)
		spoil(V{List: found})
		set, _ := path.Set(v, l, x)
		spoil(set)
		deleted, _ := path.Delete(v, l)
		spoil(deleted)
		if !value.Equal(v, before) || !value.Equal(x, wantX) || !slices.Equal(l, beforeL) {
			t.Fatalf("an argument of %v, %v has changed", before, beforeL)
		}
		leaves := path.Leaves(v)
		want := make([][]P, len(leaves))
		for i, l := range leaves {
			want[i] = slices.Clone(l)
		}
		for i, l := range leaves {
			if !slices.Equal(l, want[i]) {
				t.Fatalf("the leaf %v shares memory with another one", want[i])
			}
			for j := range l[:cap(l)] {
				l[:cap(l)][j] = P{Kind: -7}
			}
		}
	})
}

// TestP5_7Spare checks that what lies behind the fields and elements of an argument is left alone.
func TestP5_7Spare(t *testing.T) {
	one, two, three := value.Int(1), value.Int(2), value.Int(3)
	elements := []V{one, two, three}
	behind := []api.Field{field("b", value.List(one)), field("d", V{Kind: api.List, List: elements[:2]}), field("e", one), field("f", one)}
	want := value.Clone(raw(behind...))
	v := V{Kind: api.Record, Fields: behind[:2]}
	for _, s := range []string{"a", "c", "c.a", "z", "b", "d", "b[0]", "d[0]", "d[1]"} {
		l := mustParse(t, s)
		path.Set(v, l, two)
		path.Delete(v, l)
	}
	if !value.Equal(raw(behind...), want) || !value.Equal(elements[2], three) {
		t.Errorf("the memory of the argument is %v, %v", behind, elements)
	}
}
