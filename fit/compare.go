package fit

import (
	"cmp"
	"slices"
	"strconv"

	"manifold/api"
	"manifold/charset"
	"manifold/value"
)

// report takes the path and the code of a misfit, and returns whether further ones are wanted. The memory of the path is used again afterwards.
type report func(at []byte, code int) bool

// compare reports the misfits of a value at a path, in order, and returns whether it was not stopped.
func compare(t api.Type, v api.Value, at []byte, found report) bool {
	switch {
	case t.Kind < api.Bool || t.Kind > api.Variant || v.Kind != t.Kind:
		return found(at, Kind)
	case !isFormed(v):
		return found(at, Invalid)
	}
	return kindRules()[t.Kind](t, v, at, found)
}

// kindRules returns the rule of each kind for a formed value of this kind.
func kindRules() [api.Variant + 1]func(t api.Type, v api.Value, at []byte, found report) bool {
	return [...]func(t api.Type, v api.Value, at []byte, found report) bool{
		api.Bool:    compareBool,
		api.Int:     compareNumber,
		api.Decimal: compareDecimal,
		api.Text:    compareText,
		api.Bytes:   compareLength,
		api.Date:    compareNumber,
		api.Time:    compareNumber,
		api.List:    compareList,
		api.Record:  compareRecord,
		api.Variant: compareVariant,
	}
}

func compareBool(t api.Type, v api.Value, at []byte, found report) bool { return true }

func compareNumber(t api.Type, v api.Value, at []byte, found report) bool {
	return inRange(t, v.Int) || found(at, Range)
}

func compareLength(t api.Type, v api.Value, at []byte, found report) bool {
	return inRange(t, len(v.Text)) || found(at, Range)
}

func inRange(t api.Type, n int) bool { return t.Min <= n && n <= t.Max }

func compareDecimal(t api.Type, v api.Value, at []byte, found report) bool {
	if v.Scale != t.Scale {
		return found(at, Scale)
	}
	return compareNumber(t, v, at, found)
}

func compareText(t api.Type, v api.Value, at []byte, found report) bool {
	if len(t.Words) == 0 {
		return compareLength(t, v, at, found)
	}
	return slices.Contains(t.Words, v.Text) || found(at, Word)
}

func compareList(t api.Type, v api.Value, at []byte, found report) bool {
	if !inRange(t, len(v.List)) && !found(at, Range) {
		return false
	}
	// Without a type of their own, the elements are compared with one of no kind, which none of them has.
	var elem api.Type
	if len(t.Elem) == 1 {
		elem = t.Elem[0]
	}
	for i, x := range v.List {
		if !compare(elem, x, ofElement(at, i), found) {
			return false
		}
	}
	return true
}

func compareRecord(t api.Type, v api.Value, at []byte, found report) bool {
	for _, f := range t.Fields {
		here, further := ofField(at, f.Name), true
		if i, has := search(v.Fields, f.Name); has {
			further = compare(f.Type, v.Fields[i].Value, here, found)
		} else if f.Need != api.Optional {
			further = found(here, Missing)
		}
		if !further {
			return false
		}
	}
	for _, f := range v.Fields {
		if find(t.Fields, f.Name) < 0 && !found(ofField(at, f.Name), Unknown) {
			return false
		}
	}
	return true
}

func compareVariant(t api.Type, v api.Value, at []byte, found report) bool {
	i := find(t.Fields, v.Text)
	if i < 0 {
		return found(at, Case)
	}
	return compare(t.Fields[i].Type, v.List[0], ofCase(at, v.Text), found)
}

// ofField, ofElement and ofCase return the path of a part of the value at a path. The parts of a value share the memory of its path, since each one is left before the next one is entered.
func ofField(at []byte, name string) []byte {
	if len(at) > 0 {
		at = append(at, '.')
	}
	return append(at, name...)
}

func ofElement(at []byte, i int) []byte {
	return append(strconv.AppendInt(append(at, '['), int64(i), 10), ']')
}

func ofCase(at []byte, name string) []byte { return append(append(at, '?'), name...) }

// find returns the index of the first field or case with a name, or -1.
func find(l []api.TypeField, name string) int {
	return slices.IndexFunc(l, func(f api.TypeField) bool { return f.Name == name })
}

// search returns the place of a name among fields in the order of names, and whether one of them has it.
func search(l []api.Field, name string) (int, bool) {
	return slices.BinarySearchFunc(l, name, func(f api.Field, name string) int { return cmp.Compare(f.Name, name) })
}

// isFormed reports whether a value has nothing but what its kind uses, and this as it should be; its parts may be wrong.
func isFormed(v api.Value) bool {
	rest := v
	rest.Kind = api.Null
	formed := true
	switch v.Kind {
	case api.Bool:
		rest.Int, formed = 0, v.Int == 0 || v.Int == 1
	case api.Int, api.Date, api.Time:
		rest.Int = 0
	case api.Decimal:
		rest.Int, rest.Scale = 0, 0
	case api.Text:
		rest.Text, formed = "", charset.Valid(v.Text)
	case api.Bytes:
		rest.Text = ""
	case api.List:
		rest.List = nil
	case api.Record:
		rest.Fields, formed = nil, isIncreasing(v.Fields)
	case api.Variant:
		rest.Text, rest.List, formed = "", nil, len(v.List) == 1
	}
	return formed && value.IsNull(rest)
}

// isIncreasing reports whether the names of fields are strictly increasing.
func isIncreasing(l []api.Field) bool {
	for i := 1; i < len(l); i++ {
		if l[i].Name <= l[i-1].Name {
			return false
		}
	}
	return true
}
