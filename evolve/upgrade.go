package evolve

import (
	"cmp"
	"slices"

	"manifold/api"
	"manifold/decimal"
	"manifold/fit"
	"manifold/value"
)

// kinds are the kinds of an old type and of a new one.
type kinds struct{ old, new int }

// conversions has a function for all kinds between which there are upgrades. A function takes the conversions of the parts, valid types of its kinds, and a value that fits the old one with all defaults, whose memory it may use; it reports whether there is an upgrade.
type conversions map[kinds]func(c conversions, old, new api.Type, v api.Value) (api.Value, bool)

func allConversions() conversions {
	return conversions{
		{api.Bool, api.Bool}:       conversions.same,
		{api.Int, api.Int}:         conversions.number,
		{api.Int, api.Decimal}:     conversions.number,
		{api.Decimal, api.Int}:     conversions.number,
		{api.Decimal, api.Decimal}: conversions.number,
		{api.Text, api.Text}:       conversions.same,
		{api.Bytes, api.Bytes}:     conversions.same,
		{api.Date, api.Date}:       conversions.same,
		{api.Time, api.Time}:       conversions.same,
		{api.List, api.List}:       conversions.list,
		{api.Record, api.Record}:   conversions.record,
		{api.Variant, api.Variant}: conversions.variant,
	}
}

// upgrade returns the upgrade of a value, and whether there is one.
func (c conversions) upgrade(old, new api.Type, v api.Value) (api.Value, bool) {
	convert, has := c[kinds{old.Kind, new.Kind}]
	if !has {
		return api.Value{}, false
	}
	return convert(c, old, new, v)
}

// same keeps a value without parts.
func (c conversions) same(old, new api.Type, v api.Value) (api.Value, bool) {
	return v, fit.Fits(new, v)
}

func (c conversions) number(old, new api.Type, v api.Value) (api.Value, bool) {
	n, ok := rescaled(v.Int, old.Scale, new.Scale)
	v = api.Value{Kind: new.Kind, Int: n, Scale: new.Scale}
	return v, ok && fit.Fits(new, v)
}

// rescaled returns a number with another scale, and whether it can be written so.
func rescaled(n, old, new int) (int, bool) {
	before := api.Number{Int: n, Scale: old}
	after, e := decimal.Round(before, new)
	if e != api.OK {
		return 0, false
	}
	difference, _ := decimal.Compare(before, after)
	return after.Int, difference == 0
}

func (c conversions) list(old, new api.Type, v api.Value) (api.Value, bool) {
	if len(v.List) < new.Min || len(v.List) > new.Max {
		return api.Value{}, false
	}
	for i, x := range v.List {
		upgraded, ok := c.upgrade(old.Elem[0], new.Elem[0], x)
		if !ok {
			return api.Value{}, false
		}
		v.List[i] = upgraded
	}
	return v, true
}

func (c conversions) record(old, new api.Type, v api.Value) (api.Value, bool) {
	before := byNumber(old)
	var l []api.Field
	for _, f := range new.Fields {
		x, has := fieldOf(before, f.Number, v)
		switch {
		case has:
			var ok bool
			if x, ok = c.upgrade(before[f.Number].Type, f.Type, x); !ok {
				return api.Value{}, false
			}
		case f.Need == api.Optional:
			continue
		case f.Need == api.Defaulted:
			x = value.Clone(f.Default[0])
		default:
			return api.Value{}, false
		}
		l = append(l, api.Field{Name: f.Name, Value: x})
	}
	slices.SortFunc(l, func(a, b api.Field) int { return cmp.Compare(a.Name, b.Name) })
	return api.Value{Kind: api.Record, Fields: l}, true
}

// fieldOf returns what a record has in the old field with a number, and whether there is such a field, and the record has it.
func fieldOf(before map[int]api.TypeField, number int, v api.Value) (api.Value, bool) {
	g, known := before[number]
	if !known {
		return api.Value{}, false
	}
	i := slices.IndexFunc(v.Fields, func(f api.Field) bool { return f.Name == g.Name })
	if i < 0 {
		return api.Value{}, false
	}
	return v.Fields[i].Value, true
}

func (c conversions) variant(old, new api.Type, v api.Value) (api.Value, bool) {
	after := byNumber(new)
	for _, g := range old.Fields {
		f, kept := after[g.Number]
		if g.Name != v.Text || !kept {
			continue
		}
		x, ok := c.upgrade(g.Type, f.Type, v.List[0])
		return api.Value{Kind: api.Variant, Text: f.Name, List: []api.Value{x}}, ok
	}
	return api.Value{}, false
}
