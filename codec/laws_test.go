package codec_test

import (
	"math/rand"
	"slices"
	"strings"
	"testing"

	"manifold/api"
	"manifold/codec"
	"manifold/delimited"
	"manifold/fit"
	"manifold/fixedwidth"
	"manifold/literal"
	"manifold/schema"
	"manifold/tagged"
	"manifold/value"
)

// someSchema returns a schema whose type is flat, or has at most a number of levels.
func someSchema(r *rand.Rand, flat bool) S {
	levels := 2 + r.Intn(3)
	if flat {
		levels = 2
	}
	return of(T{Kind: api.Record, Fields: someFields(r, api.Record, levels)})
}

func someFields(r *rand.Rand, kind, levels int) []F {
	names := []string{"a", "b", "c", "d", "e"}
	r.Shuffle(len(names), func(i, j int) { names[i], names[j] = names[j], names[i] })
	var l []F
	for i := range 1 + r.Intn(4) {
		f := F{Number: 5 * (i + 1), Name: names[i], Need: api.Required, Type: someType(r, levels-1)}
		if kind == api.Record {
			f.Need = 1 + r.Intn(3)
		}
		if f.Need == api.Defaulted {
			f.Default = []V{oneOf(r, f.Type)}
		}
		l = append(l, f)
	}
	return l
}

func someType(r *rand.Rand, levels int) T {
	x := T{Kind: 1 + r.Intn(10)}
	if levels == 1 {
		x.Kind = 1 + r.Intn(7)
	}
	switch x.Kind {
	case api.Bool:
	case api.Record, api.Variant:
		x.Fields = someFields(r, x.Kind, levels)
	case api.Text, api.Bytes, api.List:
		x.Min = r.Intn(2)
		x.Max = x.Min + r.Intn(4)
		if x.Kind == api.Text && r.Intn(3) == 0 {
			x = words([][]string{{""}, {"a", "b"}, {"", "\"", ",", "a;"}}[r.Intn(3)]...)
		}
	default:
		x.Min = r.Intn(200) - 100
		x.Max = x.Min + r.Intn(200)
	}
	if x.Kind == api.Decimal {
		x.Scale = r.Intn(3)
	}
	if x.Kind == api.List {
		x.Elem = []T{someType(r, levels-1)}
	}
	return x
}

var odd = []string{"a", "b", "\"", ",", ";", "\n", " ", "é", "0"}

// oneOf returns a value of a valid type.
func oneOf(r *rand.Rand, t T) V {
	v := V{Kind: t.Kind, Scale: t.Scale}
	n := t.Min + r.Intn(t.Max-t.Min+1)
	switch {
	case t.Kind == api.Bool:
		v.Int = r.Intn(2)
	case len(t.Words) > 0:
		v.Text = t.Words[r.Intn(len(t.Words))]
	case t.Kind == api.Text || t.Kind == api.Bytes:
		for n > 0 {
			if s := odd[r.Intn(len(odd))]; len(s) <= n {
				v.Text += s
				n -= len(s)
			}
		}
	case t.Kind == api.List:
		for range n {
			v.List = append(v.List, oneOf(r, t.Elem[0]))
		}
	case t.Kind == api.Record:
		var l []api.Field
		for _, f := range t.Fields {
			if f.Need != api.Optional || r.Intn(2) == 0 {
				l = append(l, at(f.Name, oneOf(r, f.Type)))
			}
		}
		v = value.Record(l...)
	case t.Kind == api.Variant:
		f := t.Fields[r.Intn(len(t.Fields))]
		v = value.Variant(f.Name, oneOf(r, f.Type))
	default:
		v.Int = n
	}
	return v
}

// formatsOf returns formats in which messages of a schema can be written.
func formatsOf(s S) []format {
	var l []format
	for kind := api.Tagged; kind <= api.Literal; kind++ {
		f, e := codec.Usual(kind, s)
		if e != api.OK {
			continue
		}
		l = append(l, f)
		if kind == api.Delimited {
			f.Separator = ';'
			l = append(l, f)
		}
		if kind == api.Fixed {
			f.Widths = slices.Clone(f.Widths)
			f.Widths[len(f.Widths)-1] += 2
			l = append(l, f)
		}
	}
	return l
}

// bytesOf returns the bytes of a message in the words of the document.
func bytesOf(f format, s S, v V) (string, api.Errno) {
	switch f.Kind {
	case api.Tagged:
		return tagged.Encode(s.Type, v)
	case api.Delimited:
		return delimited.Encode(s.Type, f.Separator, v)
	case api.Fixed:
		return fixedwidth.Encode(s.Type, f.Widths, v)
	}
	return literal.Text(v)
}

// messageOf decodes bytes in the words of the document.
func messageOf(f format, s S, data string) (v V, at int, e api.Errno) {
	switch f.Kind {
	case api.Tagged:
		return tagged.Decode(s.Type, data)
	case api.Delimited:
		return delimited.Decode(s.Type, f.Separator, data)
	case api.Fixed:
		return fixedwidth.Decode(s.Type, f.Widths, data)
	}
	v, at, e = literal.Parse(data)
	if e == api.OK {
		v, e = fit.Complete(s.Type, v)
	}
	return v, at, e
}

func TestP14_8Inverse(t *testing.T) {
	r := rand.New(rand.NewSource(1))
	written := map[int]int{}
	for i := range 6000 {
		s := someSchema(r, i%2 == 0)
		v := oneOf(r, s.Type)
		keptType, kept := schema.Clone(s.Type), value.Clone(v)
		l := formatsOf(s)
		for _, f := range l {
			want, wantE := bytesOf(f, s, v)
			data, e := codec.Encode(f, s, v)
			if data != want || e != wantE {
				t.Fatalf("Encode(%v, %v, %v) = %q, %d, want %q, %d", f, s, v, data, e, want, wantE)
			}
			if e != api.OK {
				continue
			}
			written[f.Kind]++
			again, at, e := codec.Decode(f, s, data)
			if !value.Equal(again, v) || at != 0 || e != api.OK {
				t.Fatalf("Decode(%v, %v, %q) = %v, %d, %d, want %v", f, s, data, again, at, e, v)
			}
			damage(again)
			if again, _, _ := codec.Decode(f, s, data); !value.Equal(again, v) {
				t.Fatal("the messages of two calls share memory")
			}
			other := l[r.Intn(len(l))]
			out, at, e := codec.Convert(f, other, s, data)
			if want, wantE := codec.Encode(other, s, v); out != want || at != 0 || e != wantE {
				t.Fatalf("Convert(%v, %v, %v, %q) = %q, %d, %d, want %q, %d", f, other, s, data, out, at, e, want, wantE)
			}
			if e != api.OK {
				continue
			}
			if back, _, e := codec.Convert(other, f, s, out); back != data || e != api.OK {
				t.Fatalf("Convert(%v, %v, %v, %q) = %q, %d, want %q", other, f, s, out, back, e, data)
			}
		}
		if !schema.Equal(s.Type, keptType) || !value.Equal(v, kept) {
			t.Fatal("an argument has changed")
		}
	}
	for kind := api.Tagged; kind <= api.Literal; kind++ {
		if written[kind] < 1000 {
			t.Errorf("%d messages in formats of the kind %d", written[kind], kind)
		}
	}
}

// damage changes everything in the lists of a value.
func damage(v V) {
	for i := range v.List {
		damage(v.List[i])
		v.List[i] = V{}
	}
	for i := range v.Fields {
		damage(v.Fields[i].Value)
		v.Fields[i] = api.Field{}
	}
}

// damaged returns bytes that differ from others in something.
func damaged(r *rand.Rand, s string) string {
	i := r.Intn(len(s) + 1)
	j := min(len(s), i+r.Intn(3))
	return s[:i] + strings.Repeat([]string{"", ",", " ", "\"", "0", "1", "\x00", "\x01", "\x02", "a", "}", "\n", "\xFF"}[r.Intn(13)], r.Intn(3)) + s[j:]
}

func TestP14_8Damaged(t *testing.T) {
	r := rand.New(rand.NewSource(2))
	found := map[bool]map[int]int{true: {}, false: {}}
	for i := range 10000 {
		s := someSchema(r, i%2 == 0)
		l := formatsOf(s)
		for k, f := range l {
			data, e := codec.Encode(f, s, oneOf(r, s.Type))
			if e != api.OK {
				continue
			}
			data = damaged(r, data)
			want, wantAt, wantE := messageOf(f, s, data)
			v, at, e := codec.Decode(f, s, data)
			if !value.Equal(v, want) || at != wantAt || e != wantE {
				t.Fatalf("Decode(%v, %v, %q) = %v, %d, %d, want %v, %d, %d", f, s, data, v, at, e, want, wantAt, wantE)
			}
			found[e == api.OK][f.Kind]++
			n, is := codec.Detect(l, s, data)
			first := slices.IndexFunc(l, func(f format) bool {
				_, _, e := codec.Decode(f, s, data)
				return e == api.OK
			})
			if n != max(first, 0) || is != (first >= 0) || e == api.OK && n > k {
				t.Fatalf("Detect(%v, %v, %q) = %d, %v", l, s, data, n, is)
			}
			if e != api.OK {
				continue
			}
			again, e := codec.Encode(f, s, v)
			if w, _, decoded := codec.Decode(f, s, again); !schema.Accepts(s.Type, v) || e != api.OK || decoded != api.OK || !value.Equal(w, v) {
				t.Fatalf("Decode(%v, %v, %q) = %v, whose bytes are %q, %d", f, s, data, v, again, e)
			}
		}
	}
	for kind := api.Tagged; kind <= api.Literal; kind++ {
		if found[true][kind] < 300 || found[false][kind] < 300 {
			t.Errorf("%d and %d messages in formats of the kind %d", found[true][kind], found[false][kind], kind)
		}
	}
}
