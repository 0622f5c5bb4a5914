package schema

import (
	"cmp"
	"slices"
	"strings"

	"manifold/api"
	"manifold/value"
)

// Accepts reports whether a value is one of a type.
func Accepts(t api.Type, v api.Value) bool { return Check(t) == api.OK && accepts(t, v) }

// accepts is Accepts for a type that may be wrong in its least values only.
func accepts(t api.Type, v api.Value) bool { return value.Check(v) == api.OK && holds(t, v) }

// holds reports whether a valid value is one of a type.
func holds(t api.Type, v api.Value) bool {
	if t.Kind != v.Kind {
		return false
	}
	switch v.Kind {
	case api.Int, api.Date, api.Time:
		return bounded(t, v.Int)
	case api.Decimal:
		return bounded(t, v.Int) && v.Scale == t.Scale
	case api.Text:
		if len(t.Words) > 0 {
			return slices.Contains(t.Words, v.Text)
		}
		return bounded(t, len(v.Text))
	case api.Bytes:
		return bounded(t, len(v.Text))
	case api.List:
		return bounded(t, len(v.List)) && !slices.ContainsFunc(v.List, func(x api.Value) bool { return !holds(t.Elem[0], x) })
	case api.Record:
		return holdsFields(t, v)
	case api.Variant:
		i := find(t, v.Text)
		return i >= 0 && holds(t.Fields[i].Type, v.List[0])
	}
	return true
}

func bounded(t api.Type, n int) bool { return t.Min <= n && n <= t.Max }

// holdsFields reports whether a valid record is a value of a record type. Since no name occurs twice, no field is missing if as many were found as there must be.
func holdsFields(t api.Type, v api.Value) bool {
	missing := 0
	for _, f := range t.Fields {
		if f.Need != api.Optional {
			missing++
		}
	}
	for _, f := range v.Fields {
		i := find(t, f.Name)
		if i < 0 || !holds(t.Fields[i].Type, f.Value) {
			return false
		}
		if t.Fields[i].Need != api.Optional {
			missing--
		}
	}
	return missing == 0
}

// find returns the index of the field or case of a type with a name, or -1.
func find(t api.Type, name string) int {
	return slices.IndexFunc(t.Fields, func(f api.TypeField) bool { return f.Name == name })
}

// Least returns a value of a type, the least one in a simple sense.
func Least(t api.Type) (api.Value, api.Errno) {
	if e := Check(t); e != api.OK {
		return api.Value{}, e
	}
	return least(t), api.OK
}

// least returns the least value of a valid type.
func least(t api.Type) api.Value {
	v := api.Value{Kind: t.Kind}
	switch t.Kind {
	case api.Int, api.Decimal, api.Date, api.Time:
		v.Int, v.Scale = min(max(t.Min, 0), t.Max), t.Scale
	case api.Text:
		if len(t.Words) > 0 {
			v.Text = t.Words[0]
		} else {
			v.Text = strings.Repeat("a", t.Min)
		}
	case api.Bytes:
		v.Text = strings.Repeat("\x00", t.Min)
	case api.List:
		for range t.Min {
			v.List = append(v.List, least(t.Elem[0]))
		}
	case api.Record:
		v.Fields = leastFields(t)
	case api.Variant:
		v.Text, v.List = t.Fields[0].Name, []api.Value{least(t.Fields[0].Type)}
	}
	return v
}

// leastFields returns the fields of the least value of a record type.
func leastFields(t api.Type) []api.Field {
	var l []api.Field
	for _, f := range t.Fields {
		switch f.Need {
		case api.Required:
			l = append(l, api.Field{Name: f.Name, Value: least(f.Type)})
		case api.Defaulted:
			l = append(l, api.Field{Name: f.Name, Value: value.Clone(f.Default[0])})
		}
	}
	slices.SortFunc(l, func(a, b api.Field) int { return cmp.Compare(a.Name, b.Name) })
	return l
}
