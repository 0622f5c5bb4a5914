package subtype_test

import (
	"math/rand"
	"reflect"
	"slices"
	"strings"
	"testing"

	"manifold/api"
	"manifold/fit"
	"manifold/schema"
	"manifold/subtype"
	"manifold/value"
)

// some returns a valid type with at most a number of levels.
func some(r *rand.Rand, levels int) T {
	kind := 1 + r.Intn(10)
	if levels == 1 {
		kind = 1 + r.Intn(7)
	}
	x := T{Kind: kind}
	switch kind {
	case api.Bool:
	case api.Text:
		if r.Intn(2) == 0 {
			x.Words = someWords(r)
			return x
		}
		x.Min = r.Intn(2)
		x.Max = x.Min + r.Intn(3)
	case api.Record, api.Variant:
		x.Fields = someFields(r, levels, kind)
	default:
		x.Min = r.Intn(3)
		x.Max = x.Min + r.Intn(3)
	}
	switch kind {
	case api.Decimal:
		x.Scale = r.Intn(2)
	case api.List:
		x.Elem = []T{some(r, levels-1)}
	}
	return x
}

func someWords(r *rand.Rand) []string {
	var l []string
	for _, word := range []string{"", " ", "a", "a ", "bb"} {
		if r.Intn(2) == 0 {
			l = append(l, word)
		}
	}
	if len(l) == 0 {
		return []string{""}
	}
	return l
}

func someFields(r *rand.Rand, levels, kind int) []F {
	names := []string{"a", "b", "c", "d"}
	r.Shuffle(len(names), func(i, j int) { names[i], names[j] = names[j], names[i] })
	numbers := r.Perm(9)
	n := r.Intn(4)
	if kind == api.Variant {
		n++
	}
	var l []F
	for i := range n {
		f := F{Number: numbers[i] + 1, Name: names[i], Need: api.Required, Type: some(r, levels-1)}
		if kind == api.Record {
			f.Need = 1 + r.Intn(3)
		}
		if f.Need == api.Defaulted {
			f.Default = []V{oneOf(r, f.Type)}
		}
		l = append(l, f)
	}
	return l
}

// oneOf returns a value of a valid type.
func oneOf(r *rand.Rand, t T) V {
	v := V{Kind: t.Kind}
	n := t.Min + r.Intn(t.Max-t.Min+1)
	switch t.Kind {
	case api.Bool:
		v.Int = r.Intn(2)
	case api.Text, api.Bytes:
		v.Text = strings.Repeat(" ", n)
		if len(t.Words) > 0 {
			v.Text = t.Words[r.Intn(len(t.Words))]
		}
	case api.List:
		for range n {
			v.List = append(v.List, oneOf(r, t.Elem[0]))
		}
	case api.Record:
		var l []api.Field
		for _, f := range t.Fields {
			if f.Need != api.Optional || r.Intn(2) == 0 {
				l = append(l, at(f.Name, oneOf(r, f.Type)))
			}
		}
		v = value.Record(l...)
	case api.Variant:
		f := t.Fields[r.Intn(len(t.Fields))]
		v = value.Variant(f.Name, oneOf(r, f.Type))
	default:
		v.Int, v.Scale = n, t.Scale
	}
	return v
}

// inside returns pointers to a type and all types in it.
func inside(x *T) []*T {
	l := []*T{x}
	for i := range x.Elem {
		l = append(l, inside(&x.Elem[i])...)
	}
	for i := range x.Fields {
		l = append(l, inside(&x.Fields[i].Type)...)
	}
	return l
}

// changed returns a type that differs from another one in something, or in nothing.
func changed(r *rand.Rand, t T) T {
	x := schema.Clone(t)
	all := inside(&x)
	p := all[r.Intn(len(all))]
	switch r.Intn(9) {
	case 0:
		*p = some(r, 2)
	case 1, 2:
		p.Min -= r.Intn(3) - 1
	case 3, 4:
		p.Max += r.Intn(4) - 1
	case 5:
		if p.Kind == api.Text {
			*p = words(someWords(r)...)
		}
	case 6:
		r.Shuffle(len(p.Fields), func(i, j int) { p.Fields[i], p.Fields[j] = p.Fields[j], p.Fields[i] })
	case 7:
		if len(p.Fields) > 0 {
			i := r.Intn(len(p.Fields))
			p.Fields = slices.Delete(p.Fields, i, i+1)
		} else if p.Kind == api.Record {
			p.Fields = someFields(r, 2, api.Record)
		}
	case 8:
		if p.Kind == api.Record && len(p.Fields) > 0 {
			f := &p.Fields[r.Intn(len(p.Fields))]
			f.Need, f.Default = 1+r.Intn(3), nil
			if f.Need == api.Defaulted {
				f.Default = []V{oneOf(r, f.Type)}
			}
		}
	}
	if schema.Check(x) != api.OK {
		return t
	}
	return x
}

// somePair returns two types, of which the first one is often within the second one.
func somePair(r *rand.Rand) (s, t T) {
	s = some(r, 1+r.Intn(4))
	t = s
	for range r.Intn(4) {
		if r.Intn(2) == 0 {
			s = changed(r, s)
		} else {
			t = changed(r, t)
		}
	}
	if r.Intn(10) == 0 {
		t = some(r, 2)
	}
	return s, t
}

// isWithin says in the words of the document whether s is within t.
func isWithin(s, t T) bool {
	bounds := s.Min >= t.Min && s.Max <= t.Max
	switch {
	case s.Kind != t.Kind:
		return false
	case s.Kind == api.Bool:
		return true
	case s.Kind == api.Decimal:
		return bounds && s.Scale == t.Scale
	case s.Kind == api.Text && len(s.Words) > 0:
		for _, word := range s.Words {
			if !fit.Fits(t, value.Text(word)) {
				return false
			}
		}
		return true
	case s.Kind == api.Text && len(t.Words) > 0:
		return s.Max == 0 && t.Words[0] == ""
	case s.Kind == api.List:
		return bounds && (s.Max == 0 || isWithin(s.Elem[0], t.Elem[0]))
	case s.Kind != api.Record && s.Kind != api.Variant:
		return bounds
	}
	for _, f := range s.Fields {
		g, has := schema.Field(t, f.Name)
		if !has || !isWithin(f.Type, g.Type) || f.Need == api.Optional && g.Need != api.Optional {
			return false
		}
	}
	for _, g := range t.Fields {
		if _, has := schema.Field(s, g.Name); s.Kind == api.Record && g.Need != api.Optional && !has {
			return false
		}
	}
	return true
}

func TestP8_4Within(t *testing.T) {
	r := rand.New(rand.NewSource(1))
	within, outside := 0, 0
	for range 30000 {
		x, y := somePair(r)
		is, e := subtype.Within(x, y)
		if e != api.OK || is != isWithin(x, y) {
			t.Fatalf("Within(%v, %v) = %t, %d", x, y, is, e)
		}
		back := isWithin(y, x)
		if same, e := subtype.Same(x, y); e != api.OK || same != (is && back) {
			t.Fatalf("Same(%v, %v) = %t, %d", x, y, same, e)
		}
		w, e := subtype.Witness(x, y)
		if !is {
			if e != api.OK || !schema.Accepts(x, w) || fit.Fits(y, w) {
				t.Fatalf("Witness(%v, %v) = %v, %d", x, y, w, e)
			}
			outside++
			continue
		}
		if e != api.ErrNotFound || !value.IsNull(w) {
			t.Fatalf("Witness(%v, %v) = %v, %d", x, y, w, e)
		}
		least, _ := schema.Least(x)
		if !schema.Accepts(y, least) {
			t.Fatalf("%v does not accept %v of %v", y, least, x)
		}
		for range 4 {
			if v := oneOf(r, x); !fit.Fits(y, v) {
				t.Fatalf("%v of %v does not fit %v", v, x, y)
			}
		}
		within++
	}
	if within < 5000 || outside < 5000 {
		t.Errorf("%d types within, %d not", within, outside)
	}
}

func TestP8_4Transitive(t *testing.T) {
	r := rand.New(rand.NewSource(2))
	chains := 0
	for range 30000 {
		x, y := somePair(r)
		z := changed(r, y)
		if is, e := subtype.Within(x, x); !is || e != api.OK {
			t.Fatalf("Within(%v) is not reflexive", x)
		}
		first, _ := subtype.Within(x, y)
		second, _ := subtype.Within(y, z)
		if !first || !second {
			continue
		}
		if is, _ := subtype.Within(x, z); !is {
			t.Fatalf("Within(%v, %v, %v) is not transitive", x, y, z)
		}
		chains++
	}
	if chains < 2000 {
		t.Errorf("%d chains", chains)
	}
}

func TestP8_4Join(t *testing.T) {
	r := rand.New(rand.NewSource(3))
	joined, least := 0, 0
	for range 60000 {
		x, y := somePair(r)
		j, e := subtype.Join(x, y)
		above := changed(r, changed(r, y))
		both := isWithin(x, above) && isWithin(y, above)
		if e != api.OK {
			if e != api.ErrType || !schema.Equal(j, T{}) {
				t.Fatalf("Join(%v, %v) = %v, %d", x, y, j, e)
			}
			continue
		}
		if schema.Check(j) != api.OK || !isWithin(x, j) || !isWithin(y, j) {
			t.Fatalf("%v or %v is not within the join %v", x, y, j)
		}
		joined++
		if both {
			if !isWithin(j, above) {
				t.Fatalf("the join %v of %v and %v is not within %v", j, x, y, above)
			}
			least++
		}
		if same, _ := subtype.Join(x, x); !schema.Equal(same, x) {
			t.Fatalf("Join(%v) = %v", x, same)
		}
	}
	if joined < 5000 || least < 1000 {
		t.Errorf("%d joins, %d types above", joined, least)
	}
}

// image returns a copy of a type, deeply equal only to images of equal types, that shares nothing with it.
func image(x T) T {
	out := T{Kind: x.Kind, Min: x.Min, Max: x.Max, Scale: x.Scale}
	out.Words = append(out.Words, x.Words...)
	for _, y := range x.Elem {
		out.Elem = append(out.Elem, image(y))
	}
	for _, f := range x.Fields {
		g := F{Number: f.Number, Name: f.Name, Need: f.Need, Type: image(f.Type)}
		for _, v := range f.Default {
			g.Default = append(g.Default, imageOf(v))
		}
		out.Fields = append(out.Fields, g)
	}
	return out
}

func imageOf(v V) V {
	out := V{Kind: v.Kind, Int: v.Int, Scale: v.Scale, Text: v.Text}
	for _, x := range v.List {
		out.List = append(out.List, imageOf(x))
	}
	for _, f := range v.Fields {
		out.Fields = append(out.Fields, at(f.Name, imageOf(f.Value)))
	}
	return out
}

// spoil overwrites all the memory of a type.
func spoil(x T) {
	for i := range x.Words {
		x.Words[i] = "spoiled"
	}
	for i := range x.Elem {
		spoil(x.Elem[i])
		x.Elem[i] = T{Kind: -7}
	}
	for i := range x.Fields {
		spoil(x.Fields[i].Type)
		for j := range x.Fields[i].Default {
			spoilValue(x.Fields[i].Default[j])
			x.Fields[i].Default[j] = V{Kind: -7}
		}
		x.Fields[i] = F{Number: -7}
	}
}

func spoilValue(v V) {
	for i := range v.List {
		spoilValue(v.List[i])
		v.List[i] = V{Kind: -7}
	}
	for i := range v.Fields {
		spoilValue(v.Fields[i].Value)
		v.Fields[i] = at("spoiled", V{Kind: -7})
	}
}

func TestP8_4Memory(t *testing.T) {
	r := rand.New(rand.NewSource(4))
	for range 10000 {
		x, y := somePair(r)
		first, second := image(x), image(y)
		same := func(what string) {
			if !reflect.DeepEqual(image(x), first) || !reflect.DeepEqual(image(y), second) {
				t.Fatalf("%s(%v, %v) has changed its arguments", what, first, second)
			}
		}
		subtype.Within(x, y)
		subtype.Same(x, y)
		same("Within")
		w, _ := subtype.Witness(x, y)
		spoilValue(w)
		same("Witness")
		j, _ := subtype.Join(x, y)
		spoil(j)
		same("Join")
	}
}

// TestP8_4MemoryOfResult finds memory that two parts of a witness share.
func TestP8_4MemoryOfResult(t *testing.T) {
	x, y := list(0, 5, list(1, 1, list(1, 1, flag))), list(0, 2, list(1, 1, list(1, 1, flag)))
	w, e := subtype.Witness(x, y)
	if e != api.OK || len(w.List) != 3 {
		t.Fatalf("Witness = %v, %d", w, e)
	}
	second := imageOf(w.List[1])
	spoilValue(w.List[0])
	spoilValue(w.List[2])
	if !reflect.DeepEqual(imageOf(w.List[1]), second) {
		t.Error("the elements of a witness share memory")
	}
}
