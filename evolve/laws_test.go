package evolve_test

import (
	"math/big"
	"math/rand"
	"reflect"
	"slices"
	"strings"
	"testing"

	"manifold/api"
	"manifold/evolve"
	"manifold/fit"
	"manifold/schema"
	"manifold/value"
)

// some returns a valid type with at most a number of levels.
func some(r *rand.Rand, levels int) T {
	kind := 1 + r.Intn(10)
	if levels == 1 {
		kind = 1 + r.Intn(7)
	}
	x := T{Kind: kind}
	switch kind {
	case api.Bool:
	case api.Text:
		if r.Intn(2) == 0 {
			x.Words = someWords(r)
			return x
		}
		x.Min = r.Intn(2)
		x.Max = x.Min + r.Intn(3)
	case api.Record, api.Variant:
		x.Fields = someFields(r, levels, kind)
	case api.Int:
		x.Min = r.Intn(7) - 3
		x.Max = x.Min + r.Intn(3)
	case api.Decimal:
		x.Scale = r.Intn(3)
		x.Min = (r.Intn(7) - 3) * []int{1, 10, 100}[r.Intn(3)]
		x.Max = x.Min + r.Intn(3)*[]int{1, 10, 100}[r.Intn(3)]
	default:
		x.Min = r.Intn(3)
		x.Max = x.Min + r.Intn(3)
	}
	if kind == api.List {
		x.Elem = []T{some(r, levels-1)}
	}
	return x
}

func someWords(r *rand.Rand) []string {
	var l []string
	for _, word := range []string{"", " ", "a", "a ", "bb"} {
		if r.Intn(2) == 0 {
			l = append(l, word)
		}
	}
	if len(l) == 0 {
		return []string{""}
	}
	return l
}

func someFields(r *rand.Rand, levels, kind int) []F {
	names := []string{"a", "b", "c", "d"}
	r.Shuffle(len(names), func(i, j int) { names[i], names[j] = names[j], names[i] })
	numbers := r.Perm(5)
	n := r.Intn(4)
	if kind == api.Variant {
		n++
	}
	var l []F
	for i := range n {
		f := F{Number: numbers[i] + 1, Name: names[i], Need: api.Required, Type: some(r, levels-1)}
		if kind == api.Record {
			f.Need = 1 + r.Intn(3)
		}
		if f.Need == api.Defaulted {
			f.Default = []V{oneOf(r, f.Type, true)}
		}
		l = append(l, f)
	}
	return l
}

// oneOf returns a value that fits a valid type, or, if it is not full, one that fits with its defaults.
func oneOf(r *rand.Rand, t T, isFull bool) V {
	v := V{Kind: t.Kind}
	n := t.Min + r.Intn(t.Max-t.Min+1)
	switch t.Kind {
	case api.Bool:
		v.Int = r.Intn(2)
	case api.Text, api.Bytes:
		v.Text = strings.Repeat(" ", n)
		if len(t.Words) > 0 {
			v.Text = t.Words[r.Intn(len(t.Words))]
		}
	case api.List:
		for range n {
			v.List = append(v.List, oneOf(r, t.Elem[0], isFull))
		}
	case api.Record:
		var l []api.Field
		for _, f := range t.Fields {
			if f.Need == api.Required || f.Need == api.Defaulted && isFull || r.Intn(2) == 0 {
				l = append(l, at(f.Name, oneOf(r, f.Type, isFull)))
			}
		}
		v = value.Record(l...)
	case api.Variant:
		f := t.Fields[r.Intn(len(t.Fields))]
		v = value.Variant(f.Name, oneOf(r, f.Type, isFull))
	default:
		v.Int, v.Scale = n, t.Scale
	}
	return v
}

// inside returns pointers to a type and all types in it.
func inside(x *T) []*T {
	l := []*T{x}
	for i := range x.Elem {
		l = append(l, inside(&x.Elem[i])...)
	}
	for i := range x.Fields {
		l = append(l, inside(&x.Fields[i].Type)...)
	}
	return l
}

// changed returns a valid type that differs from another one in something, or in nothing.
func changed(r *rand.Rand, t T) T {
	x := schema.Clone(t)
	all := inside(&x)
	p := all[r.Intn(len(all))]
	switch r.Intn(9) {
	case 0:
		*p = some(r, 2)
	case 1:
		p.Min -= r.Intn(3) - 1
	case 2:
		p.Max += r.Intn(4) - 1
	case 3:
		if p.Kind == api.Text {
			*p = T{Kind: api.Text, Words: someWords(r)}
		}
	case 4:
		r.Shuffle(len(p.Fields), func(i, j int) { p.Fields[i], p.Fields[j] = p.Fields[j], p.Fields[i] })
	case 5:
		if len(p.Fields) > 0 {
			i := r.Intn(len(p.Fields))
			p.Fields = slices.Delete(p.Fields, i, i+1)
		} else if p.Kind == api.Record {
			p.Fields = someFields(r, 2, api.Record)
		}
	case 6:
		if p.Kind == api.Record || p.Kind == api.Variant {
			f := F{Number: 6 + r.Intn(3), Name: "e" + string(rune('a'+r.Intn(3))), Need: api.Required, Type: some(r, 2)}
			if p.Kind == api.Record {
				f.Need = 1 + r.Intn(3)
			}
			if f.Need == api.Defaulted {
				f.Default = []V{oneOf(r, f.Type, true)}
			}
			p.Fields = append(p.Fields, f)
		}
	case 7:
		if len(p.Fields) > 0 {
			p.Fields[r.Intn(len(p.Fields))].Name = "f" + string(rune('a'+r.Intn(9)))
		}
		if p.Kind == api.Int || p.Kind == api.Decimal {
			*p = rewritten(r, *p)
		}
	case 8:
		if p.Kind == api.Record && len(p.Fields) > 0 {
			f := &p.Fields[r.Intn(len(p.Fields))]
			f.Need, f.Default = 1+r.Intn(3), nil
			if f.Need == api.Defaulted {
				f.Default = []V{oneOf(r, f.Type, true)}
			}
		}
	}
	if schema.Check(x) != api.OK {
		return t
	}
	return x
}

// rewritten returns a type of decimal numbers with the bounds of another type of numbers, or near to them.
func rewritten(r *rand.Rand, t T) T {
	if r.Intn(2) == 0 && t.Scale > 0 {
		return T{Kind: api.Decimal, Scale: t.Scale - 1, Min: t.Min/10 - r.Intn(2), Max: t.Max/10 + r.Intn(2)}
	}
	if t.Scale == 0 && r.Intn(2) == 0 {
		t.Kind = api.Int + api.Decimal - t.Kind
		return t
	}
	return T{Kind: api.Decimal, Scale: t.Scale + 1, Min: t.Min * 10, Max: t.Max*10 + r.Intn(2)*r.Intn(10)}
}

// somePair returns an old type and a new one, which are often compatible.
func somePair(r *rand.Rand) (old, new T) {
	old = some(r, 2+r.Intn(3))
	if r.Intn(4) > 0 {
		old = T{Kind: api.Record, Fields: someFields(r, 4, api.Record)}
	}
	new = old
	for range r.Intn(6) {
		new = changed(r, new)
	}
	if r.Intn(2) == 0 {
		return new, old
	}
	return old, new
}

// exactly returns a number with another scale in the words of the document.
func exactly(n, scale, other int) (int, bool) {
	power := func(k int) *big.Int { return new(big.Int).Exp(big.NewInt(10), big.NewInt(int64(k)), nil) }
	product := new(big.Int).Mul(big.NewInt(int64(n)), power(other))
	quotient, rest := new(big.Int).QuoRem(product, power(scale), new(big.Int))
	if rest.Sign() != 0 || quotient.CmpAbs(big.NewInt(api.MaxNumber)) > 0 {
		return 0, false
	}
	return int(quotient.Int64()), true
}

// upgradeOf returns the upgrade of a value with its defaults in the words of the document, or Null if there is none.
func upgradeOf(old, new T, v V) V {
	none := V{}
	numbers := (old.Kind == api.Int || old.Kind == api.Decimal) && (new.Kind == api.Int || new.Kind == api.Decimal)
	switch {
	case numbers:
		n, ok := exactly(v.Int, old.Scale, new.Scale)
		if !ok || n < new.Min || n > new.Max {
			return none
		}
		return V{Kind: new.Kind, Int: n, Scale: new.Scale}
	case old.Kind != new.Kind:
		return none
	case old.Kind == api.List:
		if len(v.List) < new.Min || len(v.List) > new.Max {
			return none
		}
		out := V{Kind: api.List}
		for _, x := range v.List {
			y := upgradeOf(old.Elem[0], new.Elem[0], x)
			if value.IsNull(y) {
				return none
			}
			out.List = append(out.List, y)
		}
		return out
	case old.Kind == api.Record:
		return recordUpgradeOf(old, new, v)
	case old.Kind == api.Variant:
		f, _ := schema.Field(old, v.Text)
		g, has := schema.Numbered(new, f.Number)
		if !has {
			return none
		}
		x := upgradeOf(f.Type, g.Type, v.List[0])
		if value.IsNull(x) {
			return none
		}
		return value.Variant(g.Name, x)
	case !schema.Accepts(new, v):
		return none
	}
	return v
}

func recordUpgradeOf(old, new T, v V) V {
	var l []api.Field
	for _, g := range new.Fields {
		f, known := schema.Numbered(old, g.Number)
		x, has := value.Field(v, f.Name)
		switch {
		case known && has:
			y := upgradeOf(f.Type, g.Type, x)
			if value.IsNull(y) {
				return V{}
			}
			l = append(l, at(g.Name, y))
		case g.Need == api.Defaulted:
			l = append(l, at(g.Name, g.Default[0]))
		case g.Need == api.Required:
			return V{}
		}
	}
	return value.Record(l...)
}

// most returns the greatest number of values of a value of a type, by its bounds.
func most(t T) int {
	n := 1
	switch t.Kind {
	case api.List:
		n += t.Max * most(t.Elem[0])
	case api.Record:
		for _, f := range t.Fields {
			n += most(f.Type)
		}
	case api.Variant:
		for _, f := range t.Fields {
			n = max(n, 1+most(f.Type))
		}
	}
	return n
}

func TestP9_6Upgrade(t *testing.T) {
	r := rand.New(rand.NewSource(1))
	upgraded, lost := 0, 0
	for range 30000 {
		old, new := somePair(r)
		v := oneOf(r, old, false)
		full, e := fit.Complete(old, v)
		if e != api.OK {
			t.Fatalf("Complete(%v, %v): %d", old, v, e)
		}
		want := upgradeOf(old, new, full)
		w, e := evolve.Upgrade(old, new, v)
		switch {
		case value.IsNull(want):
			if e != api.ErrVersion || !value.IsNull(w) {
				t.Fatalf("Upgrade(%v, %v, %v) = %v, %d", old, new, v, w, e)
			}
			lost++
		case e != api.OK || !value.Equal(w, want) || !schema.Accepts(new, w):
			t.Fatalf("Upgrade(%v, %v, %v) = %v, %d, want %v", old, new, v, w, e, want)
		default:
			upgraded++
		}
		if same, e := evolve.Upgrade(old, old, v); e != api.OK || !value.Equal(same, full) {
			t.Fatalf("Upgrade(%v, %v) to the same type = %v, %d", old, v, same, e)
		}
	}
	if upgraded < 5000 || lost < 5000 {
		t.Errorf("%d upgrades, %d values without one", upgraded, lost)
	}
}

func TestP9_6Compatible(t *testing.T) {
	r := rand.New(rand.NewSource(2))
	compatible, not, lossless := 0, 0, 0
	for range 30000 {
		old, new := somePair(r)
		fits := evolve.Compatible(old, new)
		w, ok := evolve.Witness(old, new)
		if fits && (ok || !value.IsNull(w)) {
			t.Fatalf("Witness(%v, %v) = %v", old, new, w)
		}
		if !fits {
			not++
			if most(old) > api.MaxNodes {
				t.Fatalf("%v has large values", old)
			}
			if _, e := evolve.Upgrade(old, new, w); !ok || !schema.Accepts(old, w) || e != api.ErrVersion || !value.IsNull(upgradeOf(old, new, w)) {
				t.Fatalf("Witness(%v, %v) = %v, %t; Upgrade: %d", old, new, w, ok, e)
			}
			if evolve.Lossless(old, new) {
				t.Fatalf("Lossless(%v, %v)", old, new)
			}
			continue
		}
		compatible++
		for range 4 {
			v := oneOf(r, old, true)
			up, e := evolve.Upgrade(old, new, v)
			if e != api.OK || !schema.Accepts(new, up) {
				t.Fatalf("Upgrade(%v, %v, %v) = %v, %d", old, new, v, up, e)
			}
			if !evolve.Lossless(old, new) {
				continue
			}
			if back, e := evolve.Upgrade(new, old, up); e != api.OK || !value.Equal(back, v) {
				t.Fatalf("Upgrade(%v, %v, %v) = %v, %d, want %v", new, old, up, back, e, v)
			}
			lossless++
		}
	}
	if compatible < 5000 || not < 5000 || lossless < 10000 {
		t.Errorf("%d pairs compatible, %d not, %d values found again", compatible, not, lossless)
	}
}

// isLossless says in the words of the document whether a new type keeps an old one that is compatible.
func isLossless(old, new T) bool {
	switch old.Kind {
	case api.List:
		return old.Max == 0 || isLossless(old.Elem[0], new.Elem[0])
	case api.Record:
		for _, f := range old.Fields {
			g, has := schema.Numbered(new, f.Number)
			if !has || !isLossless(f.Type, g.Type) || f.Need == api.Optional && g.Need != api.Optional {
				return false
			}
		}
	case api.Variant:
		for _, g := range new.Fields {
			if f, has := schema.Numbered(old, g.Number); has && !isLossless(f.Type, g.Type) {
				return false
			}
		}
	}
	return true
}

func TestP9_2Lossless(t *testing.T) {
	r := rand.New(rand.NewSource(3))
	kept, lost := 0, 0
	for range 30000 {
		old, new := somePair(r)
		is := evolve.Lossless(old, new)
		if is != (evolve.Compatible(old, new) && isLossless(old, new)) {
			t.Fatalf("Lossless(%v, %v) = %t", old, new, is)
		}
		if is {
			kept++
		} else if evolve.Compatible(old, new) {
			lost++
		}
	}
	if kept < 5000 || lost < 300 {
		t.Errorf("%d pairs are lossless, %d only compatible", kept, lost)
	}
}

func TestP9_6Changes(t *testing.T) {
	r := rand.New(rand.NewSource(4))
	none, found := 0, map[int]int{}
	for range 30000 {
		old, new := somePair(r)
		l, e := evolve.Changes(old, new)
		if e != api.OK {
			t.Fatalf("Changes(%v, %v): %d", old, new, e)
		}
		for _, c := range l {
			if evolve.Name(c.Kind) == "" {
				t.Fatalf("Changes(%v, %v) = %v", old, new, l)
			}
			found[c.Kind]++
		}
		if len(l) == 0 {
			none++
			if !evolve.Compatible(old, new) || !evolve.Compatible(new, old) {
				t.Fatalf("%v and %v have no changes, but are not compatible", old, new)
			}
		}
		if schema.Equal(old, new) && len(l) > 0 {
			t.Fatalf("Changes(%v) to itself = %v", old, l)
		}
	}
	for kind := evolve.Added; kind <= evolve.Narrowed; kind++ {
		if found[kind] < 100 {
			t.Errorf("%d changes %s", found[kind], evolve.Name(kind))
		}
	}
	if none < 1000 {
		t.Errorf("%d pairs without changes", none)
	}
}

// image returns a copy of a type, deeply equal only to images of equal types, that shares nothing with it.
func image(x T) T {
	out := T{Kind: x.Kind, Min: x.Min, Max: x.Max, Scale: x.Scale}
	out.Words = append(out.Words, x.Words...)
	for _, y := range x.Elem {
		out.Elem = append(out.Elem, image(y))
	}
	for _, f := range x.Fields {
		g := F{Number: f.Number, Name: f.Name, Need: f.Need, Type: image(f.Type)}
		for _, v := range f.Default {
			g.Default = append(g.Default, imageOf(v))
		}
		out.Fields = append(out.Fields, g)
	}
	return out
}

func imageOf(v V) V {
	out := V{Kind: v.Kind, Int: v.Int, Scale: v.Scale, Text: v.Text}
	for _, x := range v.List {
		out.List = append(out.List, imageOf(x))
	}
	for _, f := range v.Fields {
		out.Fields = append(out.Fields, at(f.Name, imageOf(f.Value)))
	}
	return out
}

// spoil overwrites all the memory of a value, also behind the ends of its slices.
func spoil(v V) {
	_, _ = append(v.List, V{Kind: -7}), append(v.Fields, at("spoiled", V{}))
	for i := range v.List {
		spoil(v.List[i])
		v.List[i] = V{Kind: -7}
	}
	for i := range v.Fields {
		spoil(v.Fields[i].Value)
		v.Fields[i] = at("spoiled", V{Kind: -7})
	}
}

func TestP9_6Memory(t *testing.T) {
	r := rand.New(rand.NewSource(5))
	for range 10000 {
		old, new := somePair(r)
		v := oneOf(r, old, false)
		first, second, third := image(old), image(new), imageOf(v)
		same := func(what string) {
			if !reflect.DeepEqual(image(old), first) || !reflect.DeepEqual(image(new), second) || !reflect.DeepEqual(imageOf(v), third) {
				t.Fatalf("%s(%v, %v, %v) has changed its arguments", what, first, second, third)
			}
		}
		evolve.Compatible(old, new)
		evolve.Lossless(old, new)
		evolve.Changes(old, new)
		same("Compatible")
		w, _ := evolve.Upgrade(old, new, v)
		same("Upgrade")
		spoil(w)
		same("Upgrade")
		w, _ = evolve.Witness(old, new)
		spoil(w)
		same("Witness")
	}
}

// TestP9_6MemoryOfResult finds memory that the same defaults in one result share.
func TestP9_6MemoryOfResult(t *testing.T) {
	x := defaulted(1, "a", list(0, 3, flag), value.List(value.Bool(true), value.Bool(true)))
	w, e := evolve.Upgrade(list(0, 3, record()), list(0, 3, record(x)), value.List(value.Record(), value.Record(), value.Record()))
	if e != api.OK || len(w.List) != 3 {
		t.Fatalf("Upgrade = %v, %d", w, e)
	}
	second := imageOf(w.List[1])
	spoil(w.List[0])
	spoil(w.List[2])
	if !reflect.DeepEqual(imageOf(w.List[1]), second) {
		t.Error("the elements of an upgrade share memory")
	}
}
