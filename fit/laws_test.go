package fit_test

import (
	"math/rand"
	"reflect"
	"slices"
	"strconv"
	"strings"
	"testing"
	"unicode/utf8"

	"manifold/api"
	"manifold/fit"
	"manifold/schema"
	"manifold/value"
)

// wildType returns a type with at most a number of levels, which may be invalid, but less often if it is tame.
func wildType(r *rand.Rand, levels int, tame bool) T {
	odd := func() bool { return !tame && r.Intn(12) == 0 }
	x := T{Kind: 1 + r.Intn(10)}
	switch {
	case levels == 1:
		x.Kind = 1 + r.Intn(7)
	case r.Intn(3) == 0:
		x.Kind = api.Record
	}
	switch x.Kind {
	case api.Bool, api.Record, api.Variant:
	case api.Decimal:
		x.Scale = r.Intn(2)
		fallthrough
	case api.Int, api.Date, api.Time:
		x.Min = r.Intn(4) - 2
		x.Max = x.Min + r.Intn(3)
	case api.Text:
		if r.Intn(2) == 0 {
			x.Words = []string{"a", "b", "xx"}[:1+r.Intn(3)]
			break
		}
		fallthrough
	default:
		x.Min = r.Intn(2)
		x.Max = x.Min + r.Intn(3)
	}
	if x.Kind == api.List {
		x.Elem = []T{wildType(r, levels-1, tame)}
	}
	if x.Kind == api.Record || x.Kind == api.Variant {
		x.Fields = wildFields(r, levels, tame, x.Kind)
	}
	if odd() {
		x.Kind = r.Intn(13) - 1
	}
	if odd() && levels > 1 {
		x.Elem = append(x.Elem, wildType(r, levels-1, tame))
	}
	if odd() {
		x.Elem = nil
	}
	return x
}

func wildFields(r *rand.Rand, levels int, tame bool, kind int) []F {
	names := []string{"a", "b", "c", "d"}
	r.Shuffle(len(names), func(i, j int) { names[i], names[j] = names[j], names[i] })
	if !tame && r.Intn(5) == 0 {
		names[r.Intn(4)] = []string{"a", "b", "", "a.b"}[r.Intn(4)]
	}
	n := r.Intn(4)
	if kind == api.Variant {
		n++
	}
	var l []F
	for i := range n {
		f := F{Number: i + 1, Name: names[i], Need: api.Required, Type: wildType(r, levels-1, tame)}
		if kind == api.Record {
			f.Need = 1 + r.Intn(3)
		}
		if f.Need == api.Defaulted || !tame && r.Intn(10) == 0 {
			f.Default = []V{valueFor(r, f.Type)}
		}
		if !tame && r.Intn(12) == 0 {
			f.Need = r.Intn(5)
			f.Default = []V{{Kind: api.Int}, {Kind: api.Int}}[:r.Intn(3)]
		}
		l = append(l, f)
	}
	return l
}

// valueFor returns a value whose completed value fits a type if the type is valid.
func valueFor(r *rand.Rand, t T) V {
	v := V{Kind: t.Kind}
	n := t.Min
	if t.Max > t.Min {
		n += r.Intn(t.Max - t.Min + 1)
	}
	switch t.Kind {
	case api.Bool:
		v.Int = r.Intn(2)
	case api.Int, api.Date, api.Time:
		v.Int = n
	case api.Decimal:
		v.Int, v.Scale = n, t.Scale
	case api.Text, api.Bytes:
		v.Text = strings.Repeat("x", max(n, 0))
		if len(t.Words) > 0 {
			v.Text = t.Words[r.Intn(len(t.Words))]
		}
	case api.List:
		for i := 0; i < n && len(t.Elem) > 0; i++ {
			v.List = append(v.List, valueFor(r, t.Elem[0]))
		}
	case api.Record:
		var l []api.Field
		for _, f := range t.Fields {
			switch {
			case f.Need == api.Defaulted && r.Intn(5) == 0:
			case len(f.Default) > 0 && r.Intn(3) == 0:
				l = append(l, at(f.Name, imageOf(f.Default[0])))
			case f.Need != api.Optional || r.Intn(2) == 0:
				l = append(l, at(f.Name, valueFor(r, f.Type)))
			}
		}
		v = value.Record(l...)
	case api.Variant:
		if len(t.Fields) > 0 {
			f := t.Fields[r.Intn(len(t.Fields))]
			v.Text, v.List = f.Name, []V{valueFor(r, f.Type)}
		}
	}
	return v
}

// partsOf returns pointers to a value and all that it consists of.
func partsOf(v *V) []*V {
	l := []*V{v}
	for i := range v.List {
		l = append(l, partsOf(&v.List[i])...)
	}
	for i := range v.Fields {
		l = append(l, partsOf(&v.Fields[i].Value)...)
	}
	return l
}

// damage changes something in a value.
func damage(r *rand.Rand, root *V) {
	all := partsOf(root)
	v := all[r.Intn(len(all))]
	switch r.Intn(8) {
	case 0:
		v.Kind = r.Intn(13) - 1
	case 1:
		v.Int = r.Intn(7) - 3
	case 2:
		v.Scale = r.Intn(3)
	case 3:
		v.Text = []string{"", "a", "c", "xxxxxx", "\xFF"}[r.Intn(5)]
	case 4:
		v.List = append(v.List, value.Int(r.Intn(3)))
	case 5:
		v.List = nil
	case 6:
		*v = raw(append(v.Fields, at([]string{"a", "e", ""}[r.Intn(3)], value.Bool(true)))...)
	case 7:
		if len(v.Fields) > 0 {
			i := r.Intn(len(v.Fields))
			v.Fields = slices.Delete(v.Fields, i, i+1)
		}
	}
}

// sample calls f with types and values of all sorts.
func sample(seed int64, f func(t T, v V)) {
	r := rand.New(rand.NewSource(seed))
	for i := range 40000 {
		t := wildType(r, 1+r.Intn(4), i%2 == 0)
		v := valueFor(r, t)
		for range r.Intn(3) {
			damage(r, &v)
		}
		f(t, v)
	}
}

// misfits returns all misfits of a value at a path, in the words of the document.
func misfits(p string, v V, t T) []fit.Misfit {
	one := func(code int) []fit.Misfit { return []fit.Misfit{{Path: p, Code: code}} }
	n := v.Int
	switch {
	case t.Kind < 1 || t.Kind > 10 || v.Kind != t.Kind:
		return one(fit.Kind)
	case !formed(v):
		return one(fit.Invalid)
	case t.Kind == api.Bool:
		return nil
	case t.Kind == api.Decimal && v.Scale != t.Scale:
		return one(fit.Scale)
	case t.Kind == api.Text && len(t.Words) > 0:
		if !slices.Contains(t.Words, v.Text) {
			return one(fit.Word)
		}
		return nil
	case t.Kind == api.Text || t.Kind == api.Bytes:
		n = len(v.Text)
	case t.Kind == api.List:
		n = len(v.List)
	case t.Kind == api.Record:
		return misfitsOfFields(p, v, t)
	case t.Kind == api.Variant:
		for _, f := range t.Fields {
			if f.Name == v.Text {
				return misfits(p+"?"+v.Text, v.List[0], f.Type)
			}
		}
		return one(fit.Case)
	}
	var l []fit.Misfit
	if n < t.Min || n > t.Max {
		l = one(fit.Range)
	}
	for i, x := range v.List {
		q := p + "[" + strconv.Itoa(i) + "]"
		if len(t.Elem) == 1 {
			l = append(l, misfits(q, x, t.Elem[0])...)
		} else {
			l = append(l, fit.Misfit{Path: q, Code: fit.Kind})
		}
	}
	return l
}

func misfitsOfFields(p string, v V, t T) []fit.Misfit {
	if p != "" {
		p += "."
	}
	var l []fit.Misfit
	for _, f := range t.Fields {
		x, has := value.Field(v, f.Name)
		if has {
			l = append(l, misfits(p+f.Name, x, f.Type)...)
		} else if f.Need != api.Optional {
			l = append(l, fit.Misfit{Path: p + f.Name, Code: fit.Missing})
		}
	}
	for _, f := range v.Fields {
		if !slices.ContainsFunc(t.Fields, func(g F) bool { return g.Name == f.Name }) {
			l = append(l, fit.Misfit{Path: p + f.Name, Code: fit.Unknown})
		}
	}
	return l
}

func formed(v V) bool {
	number := v.Kind == api.Bool || v.Kind == api.Int || v.Kind == api.Decimal || v.Kind == api.Date || v.Kind == api.Time
	text := v.Kind == api.Text || v.Kind == api.Bytes || v.Kind == api.Variant
	lists := v.Kind == api.List || v.Kind == api.Variant
	switch {
	case !number && v.Int != 0, v.Kind != api.Decimal && v.Scale != 0, !text && v.Text != "", !lists && len(v.List) > 0, v.Kind != api.Record && len(v.Fields) > 0:
		return false
	case v.Kind == api.Bool:
		return v.Int == 0 || v.Int == 1
	case v.Kind == api.Text:
		return utf8.ValidString(v.Text)
	case v.Kind == api.Variant:
		return len(v.List) == 1
	}
	for i, f := range v.Fields {
		for _, g := range v.Fields[:i] {
			if g.Name >= f.Name {
				return false
			}
		}
	}
	return true
}

func TestP7_1AsDefined(t *testing.T) {
	found := map[int]int{}
	sample(1, func(x T, v V) {
		want := misfits("", v, x)
		if got := fit.Misfits(x, v); !slices.Equal(got, want[:min(len(want), 64)]) || fit.Fits(x, v) != (len(want) == 0) {
			t.Fatalf("Misfits(%v, %v) = %v, want %v", x, v, got, want)
		}
		for _, m := range want {
			found[m.Code]++
		}
		found[0] += len(want) - max(len(want)-1, 0)
	})
	for code := range 9 {
		if found[code] == 0 {
			t.Errorf("no misfit with the code %d", code)
		}
	}
}

// TestP7_1AsAccepted compares with layer 6, which says the same of what is valid.
func TestP7_1AsAccepted(t *testing.T) {
	accepted, rejected := 0, 0
	sample(2, func(x T, v V) {
		if schema.Check(x) != api.OK || value.Check(v) != api.OK {
			return
		}
		is := schema.Accepts(x, v)
		if fit.Fits(x, v) != is {
			t.Fatalf("Fits(%v, %v) is not %t", x, v, is)
		}
		if is {
			accepted++
		} else {
			rejected++
		}
	})
	if accepted < 1000 || rejected < 1000 {
		t.Errorf("%d values accepted, %d rejected", accepted, rejected)
	}
}

// completedAs returns the completed value in the words of the document.
func completedAs(t T, v V) V {
	if t.Kind != v.Kind || !formed(v) {
		return v
	}
	v = imageOf(v)
	for i := range v.List {
		switch {
		case v.Kind == api.List && len(t.Elem) == 1:
			v.List[i] = completedAs(t.Elem[0], v.List[i])
		case v.Kind == api.Variant:
			if f, has := schema.Field(t, v.Text); has {
				v.List[i] = completedAs(f.Type, v.List[i])
			}
		}
	}
	for i, f := range v.Fields {
		if g, has := schema.Field(t, f.Name); has {
			v.Fields[i].Value = completedAs(g.Type, f.Value)
		}
	}
	if v.Kind != api.Record {
		return v
	}
	for _, f := range t.Fields {
		if _, has := value.Field(v, f.Name); !has && f.Need == api.Defaulted && len(f.Default) == 1 {
			v.Fields = append(v.Fields, at(f.Name, f.Default[0]))
			slices.SortFunc(v.Fields, func(a, b api.Field) int { return strings.Compare(a.Name, b.Name) })
		}
	}
	return v
}

// reducedAs returns the reduced value of one that fits.
func reducedAs(t T, v V) V {
	out := V{Kind: v.Kind, Int: v.Int, Scale: v.Scale, Text: v.Text}
	for _, x := range v.List {
		inner := T{}
		if v.Kind == api.List {
			inner = t.Elem[0]
		} else if f, has := schema.Field(t, v.Text); has {
			inner = f.Type
		}
		out.List = append(out.List, reducedAs(inner, x))
	}
	for _, f := range v.Fields {
		g, _ := schema.Field(t, f.Name)
		if g.Need != api.Defaulted || len(g.Default) != 1 || !reflect.DeepEqual(imageOf(g.Default[0]), imageOf(f.Value)) {
			out.Fields = append(out.Fields, at(f.Name, reducedAs(g.Type, f.Value)))
		}
	}
	return out
}

func TestP7_2AsDefined(t *testing.T) {
	completed, changed, reduced := 0, 0, 0
	sample(3, func(x T, v V) {
		want := completedAs(x, v)
		c, e := fit.Complete(x, v)
		switch {
		case len(misfits("", want, x)) > 0:
			if e != api.ErrType || !value.IsNull(c) {
				t.Fatalf("Complete(%v, %v) = %v, %d", x, v, c, e)
			}
		case e != api.OK || !value.Equal(c, want):
			t.Fatalf("Complete(%v, %v) = %v, %d, want %v", x, v, c, e, want)
		default:
			completed++
			if !value.Equal(v, c) {
				changed++
			}
		}
		d, e := fit.Reduce(x, v)
		switch {
		case len(misfits("", v, x)) > 0:
			if e != api.ErrType || !value.IsNull(d) {
				t.Fatalf("Reduce(%v, %v) = %v, %d", x, v, d, e)
			}
		case e != api.OK || !value.Equal(d, reducedAs(x, v)):
			t.Fatalf("Reduce(%v, %v) = %v, %d", x, v, d, e)
		case !value.Equal(v, d):
			reduced++
		}
	})
	if completed < 1000 || changed < 200 || reduced < 200 {
		t.Errorf("%d values completed, %d of them changed, %d reduced", completed, changed, reduced)
	}
}

func TestP7_5Consequences(t *testing.T) {
	sample(4, func(x T, v V) {
		c, e := fit.Complete(x, v)
		if e != api.OK {
			return
		}
		again, e := fit.Complete(x, c)
		if !fit.Fits(x, c) || e != api.OK || !value.Equal(again, c) {
			t.Fatalf("Complete(%v, %v) = %v, %d", x, c, again, e)
		}
		d, e := fit.Reduce(x, c)
		if e != api.OK {
			t.Fatalf("Reduce(%v, %v): %d", x, c, e)
		}
		back, e := fit.Complete(x, d)
		if e != api.OK || !value.Equal(back, c) {
			t.Fatalf("Complete(%v, %v) = %v, %d, want %v", x, d, back, e, c)
		}
		// What v is reduced to, if it fits at all, is what its completed value is reduced to.
		if other, e := fit.Reduce(x, v); e == api.OK && !value.Equal(other, d) {
			t.Fatalf("Reduce(%v, %v) = %v, want %v", x, v, other, d)
		}
		wider := x
		wider.Min, wider.Max = x.Min-1, x.Max+2
		if !fit.Fits(wider, c) {
			t.Fatalf("%v does not fit %v", c, wider)
		}
	})
}

func image(x T) T {
	out := T{Kind: x.Kind, Min: x.Min, Max: x.Max, Scale: x.Scale}
	out.Words = append(out.Words, x.Words...)
	for _, y := range x.Elem {
		out.Elem = append(out.Elem, image(y))
	}
	for _, f := range x.Fields {
		g := F{Number: f.Number, Name: f.Name, Need: f.Need, Type: image(f.Type)}
		for _, v := range f.Default {
			g.Default = append(g.Default, imageOf(v))
		}
		out.Fields = append(out.Fields, g)
	}
	return out
}

// imageOf returns a copy of a value, deeply equal only to images of equal values, that shares nothing with it.
func imageOf(v V) V {
	out := V{Kind: v.Kind, Int: v.Int, Scale: v.Scale, Text: v.Text}
	for _, x := range v.List {
		out.List = append(out.List, imageOf(x))
	}
	for _, f := range v.Fields {
		out.Fields = append(out.Fields, at(f.Name, imageOf(f.Value)))
	}
	return out
}

// roomy returns an equal value whose slices have room behind their ends, where nothing may be written either.
func roomy(v V) V {
	var l []V
	for _, x := range v.List {
		l = append(l, roomy(x))
	}
	var fields []api.Field
	for _, f := range v.Fields {
		fields = append(fields, at(f.Name, roomy(f.Value)))
	}
	v.List = append(l, V{Int: 77}, V{Int: 78})[:len(l)]
	v.Fields = append(fields, at("x", V{Int: 77}), at("y", V{Int: 78}))[:len(fields)]
	return v
}

// untouched reports whether a value, and the room of a roomy one, are as they were.
func untouched(v, before V) bool {
	l, fields := v.List[:len(v.List)+2], v.Fields[:len(v.Fields)+2]
	for i, x := range v.List {
		if !untouched(x, before.List[i]) {
			return false
		}
	}
	for i, f := range v.Fields {
		if !untouched(f.Value, before.Fields[i].Value) {
			return false
		}
	}
	return reflect.DeepEqual(imageOf(v), before) && l[len(l)-2].Int == 77 && l[len(l)-1].Int == 78 && fields[len(fields)-2].Name == "x" && fields[len(fields)-1].Name == "y"
}

// spoil overwrites all the memory of a value, also behind the ends of its slices.
func spoil(v V) {
	_, _ = append(v.List, V{Kind: -7}), append(v.Fields, at("spoiled", V{}))
	for i := range v.List {
		spoil(v.List[i])
		v.List[i] = V{Kind: -7}
	}
	for i := range v.Fields {
		spoil(v.Fields[i].Value)
		v.Fields[i] = at("spoiled", V{Kind: -7})
	}
}

func TestP7_5Memory(t *testing.T) {
	sample(5, func(x T, v V) {
		v = roomy(v)
		typeBefore, before := image(x), imageOf(v)
		same := func(what string) {
			if !untouched(v, before) || !reflect.DeepEqual(image(x), typeBefore) {
				t.Fatalf("%s(%v, %v) has changed its arguments", what, typeBefore, before)
			}
		}
		c, _ := fit.Complete(x, v)
		same("Complete")
		spoil(c)
		same("Complete")
		d, _ := fit.Reduce(x, v)
		same("Reduce")
		spoil(d)
		same("Reduce")
		fit.Misfits(x, v)
		same("Misfits")
	})
}

func TestP1Deep(t *testing.T) {
	x, v := record(defaulted("m", digit, value.Int(7))), raw()
	for range 1 << 16 {
		x, v = list(0, 1, x), V{Kind: api.List, List: []V{v}}
	}
	l := fit.Misfits(x, v)
	if len(l) != 1 || l[0].Code != fit.Missing || len(l[0].Path) != 3<<16+2 {
		t.Errorf("%d misfits", len(l))
	}
	c, e := fit.Complete(x, v)
	if e != api.OK || !fit.Fits(x, c) {
		t.Errorf("Complete: %d", e)
	}
	if d, e := fit.Reduce(x, c); e != api.OK || !value.Equal(d, v) {
		t.Errorf("Reduce: %d", e)
	}
}
