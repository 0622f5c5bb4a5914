package path

import (
	"slices"

	"manifold/api"
	"manifold/value"
)

// Set returns a value in which the value at a path is another one.
func Set(v api.Value, l []Part, x api.Value) (api.Value, api.Errno) {
	if Check(l) != api.OK || slices.ContainsFunc(l, isAll) {
		return api.Value{}, api.ErrFormat
	}
	v, e := set(v, l, x)
	return value.Clone(v), e
}

// set returns a value that shares memory with v and x.
func set(v api.Value, l []Part, x api.Value) (api.Value, api.Errno) {
	if len(l) == 0 {
		return x, api.OK
	}
	return rebuild(v, l[0], func(old api.Value) (api.Value, api.Errno) { return set(old, l[1:], x) })
}

// rebuild returns v in which the part to which p leads on, which is no All, is what rest makes of it. A field that is absent is made of a record without fields.
func rebuild(v api.Value, p Part, rest func(old api.Value) (api.Value, api.Errno)) (api.Value, api.Errno) {
	s, applies := lead(v, p)
	switch {
	case !applies:
		return api.Value{}, api.ErrPath
	case s.from < s.to:
		x, e := rest(part(v, s.from))
		if e != api.OK {
			return api.Value{}, e
		}
		return withPart(v, s.from, x), api.OK
	case p.Kind != Field:
		return api.Value{}, api.ErrAbsent
	case len(v.Fields) >= api.MaxFields:
		return api.Value{}, api.ErrLimit
	}
	x, e := rest(api.Value{Kind: api.Record})
	if e != api.OK {
		return api.Value{}, e
	}
	return withField(v, api.Field{Name: p.Name, Value: x}), api.OK
}

// withPart returns v with another part with an index.
func withPart(v api.Value, i int, x api.Value) api.Value {
	if v.Kind == api.Record {
		v.Fields = slices.Clone(v.Fields)
		v.Fields[i].Value = x
	} else {
		v.List = slices.Clone(v.List)
		v.List[i] = x
	}
	return v
}

// withField returns v with a further field before the first one with a greater name.
func withField(v api.Value, f api.Field) api.Value {
	i := slices.IndexFunc(v.Fields, func(g api.Field) bool { return g.Name > f.Name })
	if i < 0 {
		i = len(v.Fields)
	}
	v.Fields = slices.Insert(slices.Clone(v.Fields), i, f)
	return v
}

// withoutPart returns v without the field or the element with an index.
func withoutPart(v api.Value, i int) api.Value {
	if v.Kind == api.Record {
		v.Fields = slices.Delete(slices.Clone(v.Fields), i, i+1)
	} else {
		v.List = slices.Delete(slices.Clone(v.List), i, i+1)
	}
	return v
}

// Delete returns a value without the field or the element at a path.
func Delete(v api.Value, l []Part) (api.Value, api.Errno) {
	if Check(l) != api.OK || slices.ContainsFunc(l, isAll) || l[len(l)-1].Kind == Case {
		return api.Value{}, api.ErrFormat
	}
	// A path that is absent ends here, because rebuild would add its fields.
	if _, e := find(v, l); e != api.OK {
		return api.Value{}, e
	}
	v, e := remove(v, l)
	return value.Clone(v), e
}

// remove returns v, which has a value at the path, without it; the result shares memory with v.
func remove(v api.Value, l []Part) (api.Value, api.Errno) {
	if len(l) == 1 {
		s, _ := lead(v, l[0])
		return withoutPart(v, s.from), api.OK
	}
	return rebuild(v, l[0], func(old api.Value) (api.Value, api.Errno) { return remove(old, l[1:]) })
}
