package tagged_test

import (
	"math/rand"
	"reflect"
	"slices"
	"strings"
	"testing"

	"manifold/api"
	"manifold/schema"
	"manifold/tagged"
	"manifold/value"
)

// some returns a valid type with at most a number of levels.
func some(r *rand.Rand, levels int) T {
	kind := 1 + r.Intn(10)
	if levels == 1 {
		kind = 1 + r.Intn(7)
	}
	x := T{Kind: kind}
	switch kind {
	case api.Bool:
	case api.Text:
		if r.Intn(2) == 0 {
			x.Words = [][]string{{""}, {"a", "b"}, {"", "xxx"}}[r.Intn(3)]
			return x
		}
		x.Min = r.Intn(2)
		x.Max = x.Min + r.Intn(3)
	case api.Record, api.Variant:
		x.Fields = someFields(r, levels, kind)
	case api.Bytes, api.List:
		x.Min = r.Intn(2)
		x.Max = x.Min + r.Intn(4)
	default:
		x.Min = r.Intn(300) - 150
		x.Max = x.Min + r.Intn(300)
	}
	switch kind {
	case api.Decimal:
		x.Scale = r.Intn(3)
	case api.List:
		x.Elem = []T{some(r, levels-1)}
	}
	return x
}

func someFields(r *rand.Rand, levels, kind int) []F {
	names := []string{"a", "b", "c", "d"}
	r.Shuffle(len(names), func(i, j int) { names[i], names[j] = names[j], names[i] })
	numbers := []int{1, 2, 3, 200, 9999}
	r.Shuffle(len(numbers), func(i, j int) { numbers[i], numbers[j] = numbers[j], numbers[i] })
	n := r.Intn(5)
	if kind == api.Variant {
		n = 1 + r.Intn(4)
	}
	var l []F
	for i := range n {
		f := F{Number: numbers[i], Name: names[i], Need: api.Required, Type: some(r, levels-1)}
		if kind == api.Record {
			f.Need = 1 + r.Intn(3)
		}
		if f.Need == api.Defaulted {
			f.Default = []V{oneOf(r, f.Type)}
		}
		l = append(l, f)
	}
	return l
}

// oneOf returns a value of a valid type.
func oneOf(r *rand.Rand, t T) V {
	v := V{Kind: t.Kind}
	n := t.Min + r.Intn(t.Max-t.Min+1)
	switch t.Kind {
	case api.Bool:
		v.Int = r.Intn(2)
	case api.Text, api.Bytes:
		v.Text = strings.Repeat("x", n)
		if len(t.Words) > 0 {
			v.Text = t.Words[r.Intn(len(t.Words))]
		}
	case api.List:
		for range n {
			v.List = append(v.List, oneOf(r, t.Elem[0]))
		}
	case api.Record:
		var l []api.Field
		for _, f := range t.Fields {
			if f.Need != api.Optional || r.Intn(2) == 0 {
				l = append(l, at(f.Name, oneOf(r, f.Type)))
			}
		}
		v = value.Record(l...)
	case api.Variant:
		f := t.Fields[r.Intn(len(t.Fields))]
		v = value.Variant(f.Name, oneOf(r, f.Type))
	default:
		v.Int, v.Scale = n, t.Scale
	}
	return v
}

// damaged returns bytes that differ from others in something.
func damaged(r *rand.Rand, s string) string {
	b := []byte(s)
	i := r.Intn(len(b) + 1)
	odd := []byte{0, 1, 2, 3, 4, 127, 128, 129, 255, byte(r.Intn(256))}[r.Intn(10)]
	switch r.Intn(5) {
	case 0:
		return string(b[:i])
	case 1:
		return string(slices.Insert(b, i, odd))
	case 2:
		if i < len(b) {
			b = slices.Delete(b, i, i+1)
		}
	case 3:
		if i < len(b) {
			b[i] = odd
		}
	case 4:
		if i < len(b) {
			b[i] += byte(r.Intn(3)) - 1
		}
	}
	return string(b)
}

// failure is an error at an offset.
type failure struct {
	at int
	e  api.Errno
}

// numberAt reads a number in the words of the document; at first there are the bytes up to end.
func numberAt(s string, from, end int) (n, next int) {
	length := 0
	for from+length < end && length < 9 && s[from+length] >= 128 {
		length++
	}
	if length == 9 {
		panic(failure{from, api.ErrFormat})
	}
	if from+length == end {
		panic(failure{end, api.ErrTruncated})
	}
	sum, unit := uint64(0), uint64(1)
	for i := from; i <= from+length; i++ {
		sum += uint64(s[i]%128) * unit
		unit *= 128
	}
	if length > 0 && s[from+length] == 0 || sum > 1<<62-1 {
		panic(failure{from, api.ErrFormat})
	}
	return int(sum), from + length + 1
}

// bytesAt reads a number of bytes, and returns where these begin and end.
func bytesAt(s string, from, end int) (begin, behind int) {
	n, begin := numberAt(s, from, end)
	if n > end-begin {
		panic(failure{end, api.ErrTruncated})
	}
	return begin, begin + n
}

// valueAt reads a value in the words of the document.
func valueAt(t T, s string, from, end int) (v V, next int) {
	switch t.Kind {
	case api.Bool:
		if from == end {
			panic(failure{end, api.ErrTruncated})
		}
		if s[from] > 1 {
			panic(failure{from, api.ErrFormat})
		}
		return value.Bool(s[from] == 1), from + 1
	case api.Text, api.Bytes:
		begin, behind := bytesAt(s, from, end)
		v, next = V{Kind: t.Kind, Text: s[begin:behind]}, behind
	case api.List:
		n, next := numberAt(s, from, end)
		if n < t.Min || n > t.Max {
			panic(failure{from, api.ErrType})
		}
		v = V{Kind: api.List}
		for range n {
			var x V
			x, next = valueAt(t.Elem[0], s, next, end)
			v.List = append(v.List, x)
		}
		return v, next
	case api.Record:
		return recordAt(t, s, from, end)
	case api.Variant:
		number, next := numberAt(s, from, end)
		f, has := schema.Numbered(t, number)
		if !has {
			panic(failure{from, api.ErrField})
		}
		begin, behind := bytesAt(s, next, end)
		x, last := valueAt(f.Type, s, begin, behind)
		if last != behind {
			panic(failure{last, api.ErrLong})
		}
		return value.Variant(f.Name, x), behind
	default:
		var n int
		n, next = numberAt(s, from, end)
		v = V{Kind: t.Kind, Int: n / 2, Scale: t.Scale}
		if n%2 == 1 {
			v.Int = -n/2 - 1
		}
	}
	if !schema.Accepts(t, v) {
		panic(failure{from, api.ErrType})
	}
	return v, next
}

func recordAt(t T, s string, from, end int) (v V, next int) {
	n, next := numberAt(s, from, end)
	var l []api.Field
	there, before := map[int]bool{}, 0
	for range n {
		number, behind := numberAt(s, next, end)
		if number < 1 || number > 9999 {
			panic(failure{next, api.ErrRange})
		}
		if number <= before {
			panic(failure{next, api.ErrOrder})
		}
		before = number
		var begin int
		begin, next = bytesAt(s, behind, end)
		f, has := schema.Numbered(t, number)
		if !has {
			continue
		}
		x, last := valueAt(f.Type, s, begin, next)
		if last != next {
			panic(failure{last, api.ErrLong})
		}
		l = append(l, at(f.Name, x))
		there[number] = true
	}
	for _, f := range t.Fields {
		switch {
		case there[f.Number]:
		case f.Need == api.Required:
			panic(failure{next, api.ErrAbsent})
		case f.Need == api.Defaulted:
			l = append(l, at(f.Name, f.Default[0]))
		}
	}
	return value.Record(l...), next
}

// decodeAs decodes bytes in the words of the document.
func decodeAs(t T, s string) (v V, at int, e api.Errno) {
	defer func() {
		if f, ok := recover().(failure); ok {
			v, at, e = V{}, f.at, f.e
		}
	}()
	v, next := valueAt(t, s, 0, len(s))
	if next != len(s) {
		return V{}, next, api.ErrLong
	}
	if value.Size(v) > 4096 {
		return V{}, 0, api.ErrLimit
	}
	return v, 0, api.OK
}

func TestP10_3AsDefined(t *testing.T) {
	r := rand.New(rand.NewSource(1))
	found := map[api.Errno]int{}
	for range 60000 {
		x := some(r, 1+r.Intn(4))
		s, e := tagged.Encode(x, oneOf(r, x))
		if e != api.OK {
			t.Fatalf("Encode of a value of %v: %d", x, e)
		}
		for range 1 + r.Intn(3) {
			s = damaged(r, s)
		}
		want, wantAt, wantE := decodeAs(x, s)
		v, at, e := tagged.Decode(x, s)
		if !value.Equal(v, want) || at != wantAt || e != wantE {
			t.Fatalf("Decode(%v, %q) = %v, %d, %d, want %v, %d, %d", x, s, v, at, e, want, wantAt, wantE)
		}
		found[e]++
		if e != api.OK {
			continue
		}
		if again, e := tagged.Encode(x, v); e != api.OK || !schema.Accepts(x, v) || len(again) == 0 {
			t.Fatalf("Decode(%v, %q) = %v, which is no value of the type", x, s, v)
		}
	}
	for _, e := range []api.Errno{api.OK, api.ErrTruncated, api.ErrFormat, api.ErrType, api.ErrLong, api.ErrRange, api.ErrOrder, api.ErrAbsent, api.ErrField} {
		if found[e] < 20 {
			t.Errorf("%d texts with the error %d", found[e], e)
		}
	}
}

func TestP10_6Inverse(t *testing.T) {
	r := rand.New(rand.NewSource(2))
	different, beginnings := 0, 0
	for range 20000 {
		x := some(r, 1+r.Intn(4))
		v, w := oneOf(r, x), oneOf(r, x)
		s, e := tagged.Encode(x, v)
		back, at, f := tagged.Decode(x, s)
		n, g := tagged.Size(x, v)
		if e != api.OK || f != api.OK || g != api.OK || at != 0 || n != len(s) || !value.Equal(back, v) {
			t.Fatalf("Decode(%v, %q) = %v, %d, want %v", x, s, back, f, v)
		}
		other, _ := tagged.Encode(x, w)
		if value.Equal(v, w) != (s == other) || s != other && (strings.HasPrefix(s, other) || strings.HasPrefix(other, s)) {
			t.Fatalf("%v and %v of %v have the bytes %q and %q", v, w, x, s, other)
		}
		if s != other {
			different++
		}
		for i := range min(len(s), 20) {
			if v, _, e := tagged.Decode(x, s[:i]); e == api.OK {
				t.Fatalf("the beginning %q of %q is decoded as %v", s[:i], s, v)
			}
			beginnings++
		}
	}
	if different < 1000 || beginnings < 10000 {
		t.Errorf("%d pairs of values, %d beginnings", different, beginnings)
	}
}

func TestP10_6Unknown(t *testing.T) {
	r := rand.New(rand.NewSource(3))
	added := 0
	for range 20000 {
		x := T{Kind: api.Record, Fields: someFields(r, 3, api.Record)}
		v := oneOf(r, x)
		s, _ := tagged.Encode(x, v)
		l, at, e := tagged.Parts(s)
		again, f := tagged.Join(l)
		if e != api.OK || at != 0 || f != api.OK || again != s || len(l) != len(v.Fields) {
			t.Fatalf("Parts(%q) = %v, %d, %d; Join = %q, %d", s, l, at, e, again, f)
		}
		if unknown, e := tagged.Unknown(x, s); e != api.OK || len(unknown) != 0 {
			t.Fatalf("Unknown(%v, %q) = %v, %d", x, s, unknown, e)
		}
		n := []int{1, 2, 3, 4, 199, 200, 201, 9998, 9999}[r.Intn(9)]
		if _, has := schema.Numbered(x, n); has {
			continue
		}
		i, _ := slices.BinarySearchFunc(l, n, func(p P, n int) int { return p.Number - n })
		more, e := tagged.Join(slices.Insert(l, i, P{Number: n, Bytes: strings.Repeat("\xFF", r.Intn(200))}))
		if e != api.OK {
			t.Fatalf("Join: %d", e)
		}
		if w, at, e := tagged.Decode(x, more); e != api.OK || at != 0 || !value.Equal(w, v) {
			t.Fatalf("Decode(%v, %q) = %v, %d, %d, want %v", x, more, w, at, e, v)
		}
		if unknown, e := tagged.Unknown(x, more); e != api.OK || !slices.Equal(unknown, []int{n}) {
			t.Fatalf("Unknown(%v, %q) = %v, %d", x, more, unknown, e)
		}
		added++
	}
	if added < 5000 {
		t.Errorf("%d fields added", added)
	}
}

// TestP10_4AsDefined compares Parts with decoding as a record without fields.
func TestP10_4AsDefined(t *testing.T) {
	r := rand.New(rand.NewSource(4))
	wrong, right := 0, 0
	for range 30000 {
		x := T{Kind: api.Record, Fields: someFields(r, 2, api.Record)}
		s, _ := tagged.Encode(x, oneOf(r, x))
		for range 1 + r.Intn(2) {
			s = damaged(r, s)
		}
		_, wantAt, want := decodeAs(T{Kind: api.Record}, s)
		l, at, e := tagged.Parts(s)
		if at != wantAt || e != want {
			t.Fatalf("Parts(%q) = %v, %d, %d, want %d, %d", s, l, at, e, wantAt, want)
		}
		if e != api.OK {
			wrong++
			continue
		}
		if again, e := tagged.Join(l); e != api.OK || again != s {
			t.Fatalf("Join(%v) = %q, %d, want %q", l, again, e, s)
		}
		right++
	}
	if wrong < 1000 || right < 1000 {
		t.Errorf("%d texts are wrong, %d right", wrong, right)
	}
}

func TestP10_1Inverse(t *testing.T) {
	r := rand.New(rand.NewSource(5))
	for range 100000 {
		n := r.Int() >> (1 + r.Intn(62))
		s, e := tagged.Put(n)
		m, next, f := tagged.Take(s, 0)
		if e != api.OK || f != api.OK || m != n || next != len(s) || len(s) > tagged.MaxVarint {
			t.Fatalf("Put(%d) = %q, %d; Take = %d, %d, %d", n, s, e, m, next, f)
		}
		i, e := tagged.Unzigzag(n)
		z, f := tagged.Zigzag(i)
		if e != api.OK || f != api.OK || z != n {
			t.Fatalf("Unzigzag(%d) = %d, %d; Zigzag = %d, %d", n, i, e, z, f)
		}
	}
}

// image returns a copy of a type, deeply equal only to images of equal types, that shares nothing with it.
func image(x T) T {
	out := T{Kind: x.Kind, Min: x.Min, Max: x.Max, Scale: x.Scale}
	out.Words = append(out.Words, x.Words...)
	for _, y := range x.Elem {
		out.Elem = append(out.Elem, image(y))
	}
	for _, f := range x.Fields {
		g := F{Number: f.Number, Name: f.Name, Need: f.Need, Type: image(f.Type)}
		for _, v := range f.Default {
			g.Default = append(g.Default, imageOf(v))
		}
		out.Fields = append(out.Fields, g)
	}
	return out
}

func imageOf(v V) V {
	out := V{Kind: v.Kind, Int: v.Int, Scale: v.Scale, Text: v.Text}
	for _, x := range v.List {
		out.List = append(out.List, imageOf(x))
	}
	for _, f := range v.Fields {
		out.Fields = append(out.Fields, at(f.Name, imageOf(f.Value)))
	}
	return out
}

// spoil overwrites all the memory of a value, also behind the ends of its slices.
func spoil(v V) {
	_, _ = append(v.List, V{Kind: -7}), append(v.Fields, at("spoiled", V{}))
	for i := range v.List {
		spoil(v.List[i])
		v.List[i] = V{Kind: -7}
	}
	for i := range v.Fields {
		spoil(v.Fields[i].Value)
		v.Fields[i] = at("spoiled", V{Kind: -7})
	}
}

func TestP10_6Memory(t *testing.T) {
	r := rand.New(rand.NewSource(6))
	for range 10000 {
		x := some(r, 4)
		v := oneOf(r, x)
		typeBefore, before := image(x), imageOf(v)
		s, _ := tagged.Encode(x, v)
		tagged.Size(x, v)
		// Without their fields, records have their defaults.
		w, _, _ := tagged.Decode(x, s)
		spoil(w)
		w, _, _ = tagged.Decode(x, "\x00")
		spoil(w)
		if !reflect.DeepEqual(image(x), typeBefore) || !reflect.DeepEqual(imageOf(v), before) {
			t.Fatalf("the arguments %v and %v have changed", typeBefore, before)
		}
	}
	l := []P{{3, "ab"}, {200, ""}}
	tagged.Join(l)
	if !slices.Equal(l, []P{{3, "ab"}, {200, ""}}) {
		t.Error("Join has changed its argument")
	}
	twice := list(0, 3, record(defaulted(1, "a", list(0, 1, flag), value.List(value.Bool(true)))))
	w, _, _ := tagged.Decode(twice, "\x02\x00\x00")
	second := imageOf(w.List[1])
	spoil(w.List[0])
	if !reflect.DeepEqual(imageOf(w.List[1]), second) {
		t.Error("the elements of a value share memory")
	}
}
