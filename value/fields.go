package value

import (
	"cmp"
	"slices"

	"manifold/api"
)

// find returns the index of the first field with a name, or -1.
func find(l []api.Field, name string) int {
	return slices.IndexFunc(l, func(f api.Field) bool { return f.Name == name })
}

// Field returns the value of a field of a record.
func Field(v api.Value, name string) (api.Value, bool) {
	if v.Kind != api.Record {
		return api.Value{}, false
	}
	i := find(v.Fields, name)
	if i < 0 {
		return api.Value{}, false
	}
	return Clone(v.Fields[i].Value), true
}

// With returns a record with a field that has another value.
func With(v api.Value, name string, x api.Value) (api.Value, api.Errno) {
	switch {
	case v.Kind != api.Record:
		return api.Value{}, api.ErrKind
	case !IsName(name):
		return api.Value{}, api.ErrName
	case IsNull(x):
		return api.Value{}, api.ErrAbsent
	}
	i := find(v.Fields, name)
	if i < 0 && len(v.Fields) >= api.MaxFields {
		return api.Value{}, api.ErrLimit
	}
	v, x = Clone(v), Clone(x)
	if i < 0 {
		v.Fields = insert(v.Fields, api.Field{Name: name, Value: x})
	} else {
		v.Fields[i].Value = x
	}
	return v, api.OK
}

// insert inserts a field before the first one with a greater name.
func insert(l []api.Field, f api.Field) []api.Field {
	i := slices.IndexFunc(l, func(g api.Field) bool { return g.Name > f.Name })
	if i < 0 {
		i = len(l)
	}
	return slices.Insert(l, i, f)
}

// Without returns a record without a field.
func Without(v api.Value, name string) (api.Value, api.Errno) {
	if v.Kind != api.Record {
		return api.Value{}, api.ErrKind
	}
	i := find(v.Fields, name)
	if i < 0 {
		return api.Value{}, api.ErrNotFound
	}
	v = Clone(v)
	v.Fields = slices.Delete(v.Fields, i, i+1)
	return v, api.OK
}

// Record returns the record of some fields, of which the later ones replace the earlier ones, and the absent ones are left out.
func Record(l ...api.Field) api.Value {
	last := map[string]int{}
	for i, f := range l {
		if !IsNull(f.Value) {
			last[f.Name] = i
		}
	}
	var fields []api.Field
	for i, f := range l {
		if at, found := last[f.Name]; found && at == i {
			fields = append(fields, api.Field{Name: f.Name, Value: Clone(f.Value)})
		}
	}
	slices.SortFunc(fields, func(a, b api.Field) int { return cmp.Compare(a.Name, b.Name) })
	return api.Value{Kind: api.Record, Fields: fields}
}
