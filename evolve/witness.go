package evolve

import (
	"slices"
	"strings"

	"manifold/api"
	"manifold/schema"
	"manifold/value"
)

// witness returns a value that fits the old one of two valid types that are not compatible, has no upgrade, and consists of at most a number of values, and whether one was found.
func witness(old, new api.Type, room int) (api.Value, bool) {
	if old.Kind == new.Kind {
		switch old.Kind {
		case api.List:
			return listWitness(old, new, room)
		case api.Record:
			return recordWitness(old, new, room)
		case api.Variant:
			return variantWitness(old, new, room)
		}
	}
	c := allConversions()
	for _, x := range samples(old) {
		if _, ok := c.upgrade(old, new, x); !ok {
			return x, value.Size(x) <= room
		}
	}
	return api.Value{}, false
}

// samples returns values of a type, the least one first. If all of them have an upgrade to another type, and not both types are of the same kind with parts, they are compatible.
func samples(t api.Type) []api.Value {
	least, _ := schema.Least(t)
	l := []api.Value{least}
	switch t.Kind {
	case api.Int, api.Decimal:
		// If none of the bounds shows it, the number next to one that can be written with a lesser scale cannot.
		for _, n := range []int{t.Min, min(t.Min+1, t.Max), t.Max} {
			l = append(l, api.Value{Kind: t.Kind, Int: n, Scale: t.Scale})
		}
	case api.Date, api.Time:
		l = append(l, api.Value{Kind: t.Kind, Int: t.Min}, api.Value{Kind: t.Kind, Int: t.Max})
	case api.Text:
		for _, s := range texts(t) {
			l = append(l, value.Text(s))
		}
	case api.Bytes:
		l = append(l, value.Bytes(strings.Repeat("\x00", t.Max)))
	}
	return l
}

// texts returns the words of a Text type, or texts with the least and the greatest number of bytes, and more different ones than a type has words, if there are so many.
func texts(t api.Type) []string {
	if len(t.Words) > 0 {
		return slices.Clone(t.Words)
	}
	l := []string{strings.Repeat("a", t.Min), strings.Repeat("a", t.Max)}
	if t.Max > 0 {
		begin := strings.Repeat("a", max(t.Min, 1)-1)
		for b := byte(' '); b <= '~'; b++ {
			l = append(l, begin+string(rune(b)))
		}
	}
	return l
}

// listWitness returns a list with too few, or with too many elements, or with one that has no upgrade.
func listWitness(old, new api.Type, room int) (api.Value, bool) {
	least, _ := schema.Least(old.Elem[0])
	size := value.Size(least)
	lengths := []int{old.Min}
	if old.Max > new.Max {
		lengths = append(lengths, max(old.Min, new.Max+1))
	}
	for _, n := range lengths {
		if (n < new.Min || n > new.Max) && 1+n*size <= room {
			return value.List(slices.Repeat([]api.Value{least}, n)...), true
		}
	}
	if old.Max == 0 || compatible(old.Elem[0], new.Elem[0]) {
		return api.Value{}, false
	}
	others := max(old.Min, 1) - 1
	x, ok := witness(old.Elem[0], new.Elem[0], room-1-others*size)
	if !ok {
		return api.Value{}, false
	}
	return value.List(slices.Insert(slices.Repeat([]api.Value{least}, others), 0, x)...), true
}

// recordWitness returns a record without a field that is needed, or with a field that has no upgrade.
func recordWitness(old, new api.Type, room int) (api.Value, bool) {
	least, _ := schema.Least(old)
	size := value.Size(least)
	before := byNumber(old)
	for _, f := range new.Fields {
		g, known := before[f.Number]
		if isLacking(g, known, f) && size <= room {
			return least, true
		}
		if !known || compatible(g.Type, f.Type) {
			continue
		}
		left := room - size
		if replaced, has := value.Field(least, g.Name); has {
			left += value.Size(replaced)
		}
		if x, ok := witness(g.Type, f.Type, left); ok {
			v, e := value.With(least, g.Name, x)
			return v, e == api.OK
		}
	}
	return api.Value{}, false
}

// variantWitness returns a value of a case that is gone, or one that has no upgrade.
func variantWitness(old, new api.Type, room int) (api.Value, bool) {
	after := byNumber(new)
	for _, g := range old.Fields {
		f, kept := after[g.Number]
		if kept && compatible(g.Type, f.Type) {
			continue
		}
		// Without a new case, the new type has no kind, and nothing has an upgrade to it.
		if x, ok := witness(g.Type, f.Type, room-1); ok {
			return value.Variant(g.Name, x), true
		}
	}
	return api.Value{}, false
}
