package fit

import (
	"slices"

	"manifold/api"
	"manifold/value"
)

// Complete returns a value with the defaults of the fields that are absent.
func Complete(t api.Type, v api.Value) (api.Value, api.Errno) {
	v = completed(t, v)
	if !Fits(t, v) {
		return api.Value{}, api.ErrType
	}
	return value.Clone(v), api.OK
}

// Reduce returns a value without the fields that have their defaults.
func Reduce(t api.Type, v api.Value) (api.Value, api.Errno) {
	if !Fits(t, v) {
		return api.Value{}, api.ErrType
	}
	return value.Clone(reduced(t, v)), api.OK
}

// completed returns the completed value, which shares memory with v and t.
func completed(t api.Type, v api.Value) api.Value {
	if v.Kind != t.Kind || !isFormed(v) {
		return v
	}
	v = withParts(t, v, completed)
	if v.Kind == api.Record {
		v.Fields = addDefaults(t, v.Fields)
	}
	return v
}

// reduced returns the reduced value of one that fits, which shares memory with v. Fields are removed before the others are reduced, because it is not the reduced ones that are compared with defaults.
func reduced(t api.Type, v api.Value) api.Value {
	if v.Kind == api.Record {
		v.Fields = removeDefaults(t, v.Fields)
	}
	return withParts(t, v, reduced)
}

// withParts returns v with what is made of its parts and their types; parts without a type stay.
func withParts(t api.Type, v api.Value, made func(t api.Type, v api.Value) api.Value) api.Value {
	switch v.Kind {
	case api.List:
		if len(t.Elem) != 1 {
			return v
		}
		v.List = slices.Clone(v.List)
		for i, x := range v.List {
			v.List[i] = made(t.Elem[0], x)
		}
	case api.Record:
		v.Fields = slices.Clone(v.Fields)
		for i, f := range v.Fields {
			if k := find(t.Fields, f.Name); k >= 0 {
				v.Fields[i].Value = made(t.Fields[k].Type, f.Value)
			}
		}
	case api.Variant:
		if k := find(t.Fields, v.Text); k >= 0 {
			v.List = []api.Value{made(t.Fields[k].Type, v.List[0])}
		}
	}
	return v
}

// addDefaults inserts the defaults of the fields of a record type that are absent into fields, whose memory it uses.
func addDefaults(t api.Type, l []api.Field) []api.Field {
	for _, f := range t.Fields {
		if !hasDefault(f) {
			continue
		}
		if i, has := search(l, f.Name); !has {
			l = slices.Insert(l, i, api.Field{Name: f.Name, Value: f.Default[0]})
		}
	}
	return l
}

// removeDefaults returns the fields without those that have the default of their type field.
func removeDefaults(t api.Type, l []api.Field) []api.Field {
	return slices.DeleteFunc(slices.Clone(l), func(f api.Field) bool {
		k := find(t.Fields, f.Name)
		return k >= 0 && hasDefault(t.Fields[k]) && value.Equal(f.Value, t.Fields[k].Default[0])
	})
}

func hasDefault(f api.TypeField) bool { return f.Need == api.Defaulted && len(f.Default) == 1 }
