package schema

import (
	"slices"

	"manifold/api"
	"manifold/path"
)

// At returns the type of the values at a path of values of a type, and whether there may be none.
func At(t api.Type, l []path.Part) (out api.Type, absent bool, e api.Errno) {
	if e := Check(t); e != api.OK {
		return api.Type{}, false, e
	}
	if e := path.Check(l); e != api.OK {
		return api.Type{}, false, e
	}
	for _, p := range l {
		next, mayLack, e := lead(t, p)
		if e != api.OK {
			return api.Type{}, false, e
		}
		t, absent = next, absent || mayLack
	}
	return Clone(t), absent, api.OK
}

// lead returns the type to which a part of a path leads on from a valid type, and whether some of its values lead nowhere.
func lead(t api.Type, p path.Part) (api.Type, bool, api.Errno) {
	if t.Kind != kindFor(p) {
		return api.Type{}, false, api.ErrKind
	}
	switch p.Kind {
	case path.Index:
		if p.Index >= t.Max {
			return api.Type{}, false, api.ErrRange
		}
		return t.Elem[0], p.Index >= t.Min, api.OK
	case path.All:
		return t.Elem[0], t.Min == 0, api.OK
	}
	i := find(t, p.Name)
	if i < 0 {
		return api.Type{}, false, api.ErrField
	}
	f := t.Fields[i]
	return f.Type, f.Need == api.Optional || t.Kind == api.Variant && len(t.Fields) > 1, api.OK
}

// kindFor returns the kind of the types from which a part leads on.
func kindFor(p path.Part) int {
	switch p.Kind {
	case path.Field:
		return api.Record
	case path.Case:
		return api.Variant
	}
	return api.List
}

// Leaves returns the paths of all parts of a type that have no parts.
func Leaves(t api.Type) [][]path.Part {
	if Check(t) != api.OK {
		return nil
	}
	return leaves(nil, t, nil)
}

// leaves appends the paths of the leaves of a valid type at a path. The types next to each other share the memory of the path, so that each leaf gets a copy.
func leaves(out [][]path.Part, t api.Type, at []path.Part) [][]path.Part {
	if t.Kind == api.List {
		return leaves(out, t.Elem[0], append(at, path.Part{Kind: path.All}))
	}
	kind := path.Field
	if t.Kind == api.Variant {
		kind = path.Case
	}
	for _, f := range t.Fields {
		out = leaves(out, f.Type, append(at, path.Part{Kind: kind, Name: f.Name}))
	}
	if len(t.Fields) == 0 {
		out = append(out, slices.Clone(at))
	}
	return out
}
