package schema_test

import (
	"math/rand"
	"reflect"
	"slices"
	"strings"
	"testing"

	"manifold/api"
	"manifold/path"
	"manifold/schema"
	"manifold/value"
)

// valid returns a valid type with at most a number of levels.
func valid(r *rand.Rand, levels int) T {
	kind := 1 + r.Intn(10)
	if levels == 1 {
		kind = 1 + r.Intn(7)
	}
	x := T{Kind: kind}
	switch kind {
	case api.Bool:
	case api.Text:
		if r.Intn(2) == 0 {
			x.Words = [][]string{{"a"}, {"", "b"}, {"a", "b", "c"}}[r.Intn(3)]
			return x
		}
		x.Min = r.Intn(3)
		x.Max = x.Min + r.Intn(3)
	case api.Bytes:
		x.Min = r.Intn(3)
		x.Max = x.Min + r.Intn(3)
	case api.List:
		x.Min = r.Intn(3)
		x.Max = x.Min + r.Intn(3)
		x.Elem = []T{valid(r, levels-1)}
	case api.Record, api.Variant:
		x.Fields = validFields(r, levels, kind)
	default:
		x.Min = r.Intn(7) - 4
		x.Max = x.Min + r.Intn(3)
		if kind == api.Decimal {
			x.Scale = r.Intn(3)
		}
	}
	return x
}

func validFields(r *rand.Rand, levels, kind int) []F {
	names := []string{"a", "b", "b_", "c", "d1"}
	r.Shuffle(len(names), func(i, j int) { names[i], names[j] = names[j], names[i] })
	numbers := r.Perm(5)
	n := r.Intn(5)
	if kind == api.Variant {
		n++
	}
	var l []F
	for i := range n {
		f := F{Number: numbers[i] + 1, Name: names[i], Need: api.Required, Type: valid(r, levels-1)}
		if kind == api.Record {
			f.Need = 1 + r.Intn(3)
		}
		if f.Need == api.Defaulted {
			f.Default = []V{valueOf(r, f.Type)}
		}
		l = append(l, f)
	}
	return l
}

// valueOf returns a value of a valid type.
func valueOf(r *rand.Rand, t T) V {
	v := V{Kind: t.Kind}
	n := t.Min + r.Intn(t.Max-t.Min+1)
	switch t.Kind {
	case api.Bool:
		v.Int = r.Intn(2)
	case api.Text, api.Bytes:
		v.Text = strings.Repeat("x", n)
		if len(t.Words) > 0 {
			v.Text = t.Words[r.Intn(len(t.Words))]
		}
	case api.List:
		for range n {
			v.List = append(v.List, valueOf(r, t.Elem[0]))
		}
	case api.Record:
		var l []api.Field
		for _, f := range t.Fields {
			if f.Need != api.Optional || r.Intn(2) == 0 {
				l = append(l, at(f.Name, valueOf(r, f.Type)))
			}
		}
		v = value.Record(l...)
	case api.Variant:
		f := t.Fields[r.Intn(len(t.Fields))]
		v = value.Variant(f.Name, valueOf(r, f.Type))
	default:
		v.Int, v.Scale = n, t.Scale
	}
	return v
}

// within returns pointers to a type and all types in it.
func within(x *T) []*T {
	l := []*T{x}
	for i := range x.Elem {
		l = append(l, within(&x.Elem[i])...)
	}
	for i := range x.Fields {
		l = append(l, within(&x.Fields[i].Type)...)
	}
	return l
}

// damage changes something in a type.
func damage(r *rand.Rand, root *T) {
	all := within(root)
	x := all[r.Intn(len(all))]
	odd := []int{0, 1, 2, 3, -1, 13, 256, 257, 1025, 10000, api.MaxNumber, api.MaxNumber + 1, -api.MaxNumber - 1, value.MinDate - 1, value.MaxTime + 1}
	n := odd[r.Intn(len(odd))]
	switch r.Intn(8) {
	case 0:
		x.Kind = r.Intn(13) - 1
	case 1:
		x.Min = n
	case 2:
		x.Max = n
	case 3:
		x.Scale = n
	case 4:
		x.Words = [][]string{nil, {"a", "a"}, {"b", "a"}, {"\xFF"}, {strings.Repeat("x", 1025)}, manyWords(65)}[r.Intn(6)]
	case 5:
		x.Elem = [][]T{nil, {}, {flag}, {flag, flag}, {{}}, {nested(7, flag)}, {list(16, 256, list(256, 256, flag))}}[r.Intn(7)]
	case 6:
		x.Fields = [][]F{nil, {}, many(3, flag), many(65, flag), many(2, T{}), {F{}}}[r.Intn(6)]
	case 7:
		if len(x.Fields) > 0 {
			damageField(r, &x.Fields[r.Intn(len(x.Fields))], n)
		}
	}
}

func damageField(r *rand.Rand, f *F, n int) {
	switch r.Intn(4) {
	case 0:
		f.Name = []string{"", "A", "a", "b", strings.Repeat("x", 33)}[r.Intn(5)]
	case 1:
		f.Number = n
	case 2:
		f.Need = r.Intn(6) - 1
	case 3:
		f.Default = [][]V{nil, {}, {{}}, {value.Int(0)}, {value.Bool(true)}, {value.Text("a")}, {value.Int(0), value.Int(0)}}[r.Intn(7)]
	}
}

// checker finds the first error of a type in the words of the document.
type checker struct{ visited int }

func (c *checker) check(t T, level int) api.Errno {
	switch {
	case c.visited == 4096:
		return api.ErrLimit
	case level > 8:
		return api.ErrDepth
	}
	c.visited++
	if e := alone(t); e != api.OK {
		return e
	}
	for _, x := range t.Elem {
		if e := c.check(x, level+1); e != api.OK {
			return e
		}
	}
	for _, f := range t.Fields {
		if e := c.check(f.Type, level+1); e != api.OK {
			return e
		}
		if f.Need == api.Defaulted && (value.Check(f.Default[0]) != api.OK || !isOne(f.Type, f.Default[0])) {
			return api.ErrType
		}
	}
	return api.OK
}

func alone(t T) api.Errno {
	bounds := map[int][2]int{api.Int: {-api.MaxNumber, api.MaxNumber}, api.Decimal: {-api.MaxNumber, api.MaxNumber}, api.Text: {0, 1024}, api.Bytes: {0, 1024}, api.Date: {value.MinDate, value.MaxDate}, api.Time: {value.MinTime, value.MaxTime}, api.List: {0, 256}}
	b, bounded := bounds[t.Kind]
	fields := t.Kind == api.Record || t.Kind == api.Variant
	switch {
	case t.Kind < 1 || t.Kind > 10:
		return api.ErrKind
	case !bounded && (t.Min != 0 || t.Max != 0), t.Kind != api.Decimal && t.Scale != 0, t.Kind != api.Text && len(t.Words) != 0, t.Kind != api.List && len(t.Elem) != 0, !fields && len(t.Fields) != 0:
		return api.ErrFormat
	case len(t.Words) > 0:
		return wordsAlone(t)
	case bounded && (t.Min > t.Max || t.Min < b[0] || t.Max > b[1] || t.Scale < 0 || t.Scale > 12):
		return api.ErrRange
	case t.Kind == api.List && len(t.Elem) == 0, t.Kind == api.Variant && len(t.Fields) == 0:
		return api.ErrShort
	case t.Kind == api.List && len(t.Elem) > 1:
		return api.ErrFormat
	case len(t.Fields) > 64:
		return api.ErrLimit
	}
	for i := range t.Fields {
		if e := fieldAlone(t, i); e != api.OK {
			return e
		}
	}
	return api.OK
}

func wordsAlone(t T) api.Errno {
	if t.Min != 0 || t.Max != 0 {
		return api.ErrFormat
	}
	if len(t.Words) > 64 {
		return api.ErrLimit
	}
	for i, w := range t.Words {
		if e := value.Check(value.Text(w)); e != api.OK {
			return e
		}
		if i > 0 {
			switch strings.Compare(w, t.Words[i-1]) {
			case 0:
				return api.ErrDuplicate
			case -1:
				return api.ErrOrder
			}
		}
	}
	return api.OK
}

func fieldAlone(t T, i int) api.Errno {
	f := t.Fields[i]
	switch {
	case !value.IsName(f.Name):
		return api.ErrName
	case f.Number < 1 || f.Number > 9999:
		return api.ErrRange
	case slices.ContainsFunc(t.Fields[:i], func(g F) bool { return g.Name == f.Name || g.Number == f.Number }):
		return api.ErrDuplicate
	case f.Need < 1 || f.Need > 3 || t.Kind == api.Variant && f.Need != 1:
		return api.ErrKind
	case f.Need == api.Defaulted && len(f.Default) == 0:
		return api.ErrShort
	case len(f.Default) > 1 || f.Need != api.Defaulted && len(f.Default) > 0:
		return api.ErrFormat
	}
	return api.OK
}

// isOne reports whether a valid value is one of a type, from the side of the type.
func isOne(t T, v V) bool {
	if v.Kind != t.Kind {
		return false
	}
	n := v.Int
	switch t.Kind {
	case api.Bool:
		return true
	case api.Text, api.Bytes:
		n = len(v.Text)
	case api.List:
		n = len(v.List)
	case api.Variant:
		f, has := schema.Field(t, v.Text)
		return has && isOne(f.Type, v.List[0])
	case api.Record:
		known := 0
		for _, f := range t.Fields {
			x, has := value.Field(v, f.Name)
			if has {
				known++
			}
			if has && !isOne(f.Type, x) || !has && f.Need != api.Optional {
				return false
			}
		}
		return known == len(v.Fields)
	}
	for _, x := range v.List {
		if !isOne(t.Elem[0], x) {
			return false
		}
	}
	return v.Scale == t.Scale && (len(t.Words) > 0 && slices.Contains(t.Words, v.Text) || len(t.Words) == 0 && n >= t.Min && n <= t.Max)
}

// leastSize returns the size of the least value of a type; it does not overflow within 8 levels.
func leastSize(t T) int {
	size := 1
	if t.Kind == api.List {
		size += t.Min * leastSize(t.Elem[0])
	}
	for i, f := range t.Fields {
		switch {
		case f.Need == api.Defaulted:
			size += value.Size(f.Default[0])
		case f.Need == api.Required && (i == 0 || t.Kind == api.Record):
			size += leastSize(f.Type)
		}
	}
	return size
}

func wantCheck(t T) api.Errno {
	if e := new(checker).check(t, 1); e != api.OK {
		return e
	}
	for _, x := range within(&t) {
		if leastSize(*x) > 4096 {
			return api.ErrLimit
		}
	}
	return api.OK
}

func TestP6_1AsDefined(t *testing.T) {
	r := rand.New(rand.NewSource(1))
	found := map[api.Errno]int{}
	for range 40000 {
		x := valid(r, 1+r.Intn(5))
		for range r.Intn(4) {
			damage(r, &x)
		}
		want := wantCheck(x)
		if e := schema.Check(x); e != want {
			t.Fatalf("Check(%v) = %d, want %d", x, e, want)
		}
		found[want]++
	}
	for _, e := range []api.Errno{api.OK, api.ErrLimit, api.ErrDepth, api.ErrKind, api.ErrFormat, api.ErrLong, api.ErrText, api.ErrDuplicate, api.ErrOrder, api.ErrRange, api.ErrShort, api.ErrName, api.ErrType} {
		if found[e] == 0 {
			t.Errorf("no type with the error %d", e)
		}
	}
}

func TestP6_8Values(t *testing.T) {
	r := rand.New(rand.NewSource(2))
	for range 20000 {
		x := valid(r, 5)
		least, e := schema.Least(x)
		if e != api.OK || !schema.Accepts(x, least) || value.Size(least) != leastSize(x) {
			t.Fatalf("Least(%v) = %v, %d", x, least, e)
		}
		if v := valueOf(r, x); value.Check(v) == api.OK && !schema.Accepts(x, v) {
			t.Fatalf("%v does not accept %v", x, v)
		}
		v := valueOf(r, valid(r, 3))
		if is := schema.Accepts(x, v); is != (value.Check(v) == api.OK && isOne(x, v)) {
			t.Fatalf("Accepts(%v, %v) = %t", x, v, is)
		}
		for _, y := range within(&x) {
			if e := schema.Check(*y); e != api.OK {
				t.Fatalf("%v in %v: %d", y, x, e)
			}
		}
	}
}

// somePaths returns the paths of the leaves of a valid record type, their beginnings, and the same with indices for All.
func somePaths(r *rand.Rand, x T) [][]path.Part {
	var out [][]path.Part
	for _, l := range schema.Leaves(x) {
		for n := 1; n <= len(l); n++ {
			out = append(out, l[:n])
			indexed := slices.Clone(l[:n])
			for i, p := range indexed {
				if p.Kind == path.All && r.Intn(3) > 0 {
					indexed[i] = path.Part{Kind: path.Index, Index: r.Intn(5)}
				}
			}
			out = append(out, indexed)
		}
	}
	return out
}

func TestP6_8At(t *testing.T) {
	r := rand.New(rand.NewSource(3))
	ranges, present, lacking := 0, 0, 0
	for range 10000 {
		x := T{Kind: api.Record, Fields: validFields(r, 5, api.Record)}
		if len(x.Fields) == 0 {
			continue
		}
		v := valueOf(r, x)
		for _, l := range somePaths(r, x) {
			want, absent, e := schema.At(x, l)
			found, failed := path.Find(v, l)
			if e == api.ErrRange {
				// There are no values behind the greatest number of elements.
				if failed == api.OK && len(found) > 0 {
					t.Fatalf("%v: %v has %v", x, l, found)
				}
				ranges++
				continue
			}
			if e != api.OK || schema.Check(want) != api.OK {
				t.Fatalf("At(%v, %v) = %v, %d", x, l, want, e)
			}
			if (failed != api.OK || len(found) == 0) && !absent || failed == api.ErrPath {
				t.Fatalf("%v of %v has nothing at %v", v, x, l)
			}
			for _, y := range found {
				if value.Check(y) == api.OK && !schema.Accepts(want, y) {
					t.Fatalf("%v of %v has %v at %v", v, x, y, l)
				}
				present++
			}
			if absent && len(found) == 0 {
				lacking++
			}
		}
	}
	if ranges == 0 || present == 0 || lacking == 0 {
		t.Errorf("%d, %d, %d paths", ranges, present, lacking)
	}
}

func TestP6_8Leaves(t *testing.T) {
	r := rand.New(rand.NewSource(4))
	for range 10000 {
		x := T{Kind: api.Record, Fields: validFields(r, 5, api.Record)}
		count := 0
		for _, y := range within(&x) {
			if len(y.Elem) == 0 && len(y.Fields) == 0 {
				count++
			}
		}
		leaves := schema.Leaves(x)
		if len(leaves) != count {
			t.Fatalf("Leaves(%v) = %v", x, leaves)
		}
		for _, l := range leaves {
			if len(l) == 0 {
				continue
			}
			y, _, e := schema.At(x, l)
			if e != api.OK || len(y.Elem) != 0 || len(y.Fields) != 0 {
				t.Fatalf("At(%v, %v) = %v, %d", x, l, y, e)
			}
		}
	}
}

// spoil overwrites all the memory of a type.
func spoil(x T) {
	for i := range x.Words {
		x.Words[i] = "spoiled"
	}
	for i := range x.Elem {
		spoil(x.Elem[i])
		x.Elem[i] = T{Kind: -7}
	}
	for i := range x.Fields {
		spoil(x.Fields[i].Type)
		for j := range x.Fields[i].Default {
			spoilValue(x.Fields[i].Default[j])
			x.Fields[i].Default[j] = V{Kind: -7}
		}
		x.Fields[i] = F{Number: -7}
	}
}

func spoilValue(v V) {
	for i := range v.List {
		spoilValue(v.List[i])
		v.List[i] = V{Kind: -7}
	}
	for i := range v.Fields {
		spoilValue(v.Fields[i].Value)
		v.Fields[i] = at("spoiled", V{Kind: -7})
	}
}

// image returns a copy of a type, deeply equal only to images of equal types, that shares nothing with it.
func image(x T) T {
	out := T{Kind: x.Kind, Min: x.Min, Max: x.Max, Scale: x.Scale}
	out.Words = append(out.Words, x.Words...)
	for _, y := range x.Elem {
		out.Elem = append(out.Elem, image(y))
	}
	for _, f := range x.Fields {
		g := F{Number: f.Number, Name: f.Name, Need: f.Need, Type: image(f.Type)}
		for _, v := range f.Default {
			g.Default = append(g.Default, imageOf(v))
		}
		out.Fields = append(out.Fields, g)
	}
	return out
}

func imageOf(v V) V {
	out := V{Kind: v.Kind, Int: v.Int, Scale: v.Scale, Text: v.Text}
	for _, x := range v.List {
		out.List = append(out.List, imageOf(x))
	}
	for _, f := range v.Fields {
		out.Fields = append(out.Fields, at(f.Name, imageOf(f.Value)))
	}
	return out
}

func TestP6_8Memory(t *testing.T) {
	r := rand.New(rand.NewSource(5))
	for range 5000 {
		x := valid(r, 4)
		if r.Intn(2) == 0 {
			damage(r, &x)
		}
		before := image(x)
		same := func(what string) {
			if !reflect.DeepEqual(image(x), before) {
				t.Fatalf("%s has changed %v", what, before)
			}
		}
		c := schema.Clone(x)
		if !schema.Equal(c, x) || !reflect.DeepEqual(image(c), before) {
			t.Fatalf("Clone(%v) = %v", before, c)
		}
		spoil(c)
		same("the clone")
		v, _ := schema.Least(x)
		spoilValue(v)
		same("Least")
		for _, f := range before.Fields {
			named, _ := schema.Field(x, f.Name)
			numbered, _ := schema.Numbered(x, f.Number)
			spoil(record(named))
			spoil(record(numbered))
			same("a field")
		}
		for _, l := range schema.Leaves(x) {
			for n := 1; n <= len(l); n++ {
				y, _, _ := schema.At(x, l[:n])
				spoil(y)
			}
			clear(l)
			same("At")
		}
	}
}

func TestP6_8LeavesShareNothing(t *testing.T) {
	r := rand.New(rand.NewSource(6))
	for range 3000 {
		x := valid(r, 5)
		leaves, again := schema.Leaves(x), schema.Leaves(x)
		for i, l := range leaves {
			clear(l)
			_ = append(l, path.Part{Kind: -7})
			for j := i + 1; j < len(leaves); j++ {
				if !slices.Equal(leaves[j], again[j]) {
					t.Fatalf("the leaves of %v share memory", x)
				}
			}
		}
	}
}

func TestP6_7EqualAsDefined(t *testing.T) {
	r := rand.New(rand.NewSource(7))
	for range 20000 {
		x := valid(r, 3)
		y := schema.Clone(x)
		for range r.Intn(2) {
			damage(r, &y)
		}
		if same := reflect.DeepEqual(image(x), image(y)); schema.Equal(x, y) != same || schema.Equal(y, x) != same {
			t.Fatalf("Equal(%v, %v) is not %t", x, y, same)
		}
	}
}

func TestP1Deep(t *testing.T) {
	x, v := nested(1<<16, flag), value.Bool(true)
	for range 1 << 16 {
		v = V{Kind: api.List, List: []V{v}}
	}
	if schema.Check(x) != api.ErrDepth || schema.Accepts(x, v) || schema.Size(x) != 1<<16+1 || schema.Depth(x) != 1<<16+1 || !schema.Equal(x, schema.Clone(x)) || len(schema.Leaves(x)) != 0 {
		t.Error("a deep type")
	}
}
