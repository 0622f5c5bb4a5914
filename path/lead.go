package path

import (
	"slices"

	"manifold/api"
)

// span is a range of the parts of a value: of the fields of a record, or of the list of a list or a variant. It is empty if what is sought is absent.
type span struct{ from, to int }

// lead returns the parts of v to which p leads on, and whether it applies.
func lead(v api.Value, p Part) (span, bool) {
	leaders := [...]func(v api.Value, p Part) (span, bool){
		Field: leadField,
		Index: leadIndex,
		All:   leadAll,
		Case:  leadCase,
	}
	return leaders[p.Kind](v, p)
}

func leadField(v api.Value, p Part) (span, bool) {
	if v.Kind != api.Record {
		return span{}, false
	}
	i := slices.IndexFunc(v.Fields, func(f api.Field) bool { return f.Name == p.Name })
	if i < 0 {
		return span{}, true
	}
	return span{i, i + 1}, true
}

func leadIndex(v api.Value, p Part) (span, bool) {
	if v.Kind != api.List {
		return span{}, false
	}
	if p.Index >= len(v.List) {
		return span{}, true
	}
	return span{p.Index, p.Index + 1}, true
}

func leadAll(v api.Value, p Part) (span, bool) {
	if v.Kind != api.List {
		return span{}, false
	}
	return span{0, len(v.List)}, true
}

func leadCase(v api.Value, p Part) (span, bool) {
	if v.Kind != api.Variant || len(v.List) != 1 {
		return span{}, false
	}
	if v.Text != p.Name {
		return span{}, true
	}
	return span{0, 1}, true
}

// part returns the part of a value with an index.
func part(v api.Value, i int) api.Value {
	if v.Kind == api.Record {
		return v.Fields[i].Value
	}
	return v.List[i]
}

// find returns the values at a path, which share the memory of v.
func find(v api.Value, l []Part) ([]api.Value, api.Errno) {
	found := []api.Value{v}
	for _, p := range l {
		var behind []api.Value
		for _, x := range found {
			s, applies := lead(x, p)
			if !applies {
				return nil, api.ErrPath
			}
			for i := s.from; i < s.to; i++ {
				behind = append(behind, part(x, i))
			}
		}
		found = behind
	}
	if len(found) == 0 && !slices.ContainsFunc(l, isAll) {
		return nil, api.ErrAbsent
	}
	return found, api.OK
}
