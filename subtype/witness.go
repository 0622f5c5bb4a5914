package subtype

import (
	"cmp"
	"slices"
	"strings"

	"manifold/api"
	"manifold/schema"
	"manifold/value"
)

// build returns the witness for two valid types, of which s is not within t. It counts the values on the way, because a list could have far more of them than are permitted.
func build(s, t api.Type) (api.Value, api.Errno) {
	count := 0
	counted := func(v api.Value) api.Value {
		count += value.Size(v)
		return v
	}
	var witness func(s, t api.Type) api.Value
	witness = func(s, t api.Type) api.Value {
		if s.Kind != t.Kind || s.Scale != t.Scale {
			return counted(least(s))
		}
		count++
		v := api.Value{Kind: s.Kind, Scale: s.Scale}
		switch s.Kind {
		case api.Text, api.Bytes:
			v.Text = textOutside(s, t)
		case api.List:
			n, bounded := lengthOutside(s, t)
			if bounded {
				v.List = append(v.List, witness(s.Elem[0], t.Elem[0]))
			}
			x := least(s.Elem[0])
			for len(v.List) < n && count <= api.MaxNodes {
				v.List = append(v.List, counted(value.Clone(x)))
			}
		case api.Record:
			place := placeOutside(s, t)
			for i, f := range s.Fields {
				if i == place {
					v.Fields = append(v.Fields, api.Field{Name: f.Name, Value: witness(f.Type, typeOf(t, f.Name))})
				} else if f.Need != api.Optional {
					v.Fields = append(v.Fields, api.Field{Name: f.Name, Value: counted(leastOf(f))})
				}
			}
			slices.SortFunc(v.Fields, func(a, b api.Field) int { return cmp.Compare(a.Name, b.Name) })
		case api.Variant:
			c := s.Fields[firstForeign(s, t)]
			v.Text, v.List = c.Name, []api.Value{witness(c.Type, typeOf(t, c.Name))}
		default:
			v.Int = numberOutside(s, t)
		}
		return v
	}
	v := witness(s, t)
	if count > api.MaxNodes {
		return api.Value{}, api.ErrLimit
	}
	return v, api.OK
}

// least returns the least value of a valid type.
func least(t api.Type) api.Value {
	v, _ := schema.Least(t)
	return v
}

// leastOf returns what a field that is not Optional has in the least value of its record.
func leastOf(f api.TypeField) api.Value {
	if f.Need == api.Defaulted {
		return value.Clone(f.Default[0])
	}
	return least(f.Type)
}

// numberOutside returns the bound of s that is not within those of t.
func numberOutside(s, t api.Type) int {
	if s.Min < t.Min {
		return s.Min
	}
	return s.Max
}

// textOutside returns the text, or the bytes, of s that t does not have.
func textOutside(s, t api.Type) string {
	switch {
	case len(s.Words) > 0:
		return s.Words[firstOutside(s.Words, t)]
	case len(t.Words) > 0:
		return otherWord(t.Words, s.Min)
	case s.Kind == api.Bytes:
		return strings.Repeat("\x00", numberOutside(s, t))
	}
	return strings.Repeat("a", numberOutside(s, t))
}

// otherWord returns a text with a least number of bytes that is none of the words. There are more printable characters than words.
func otherWord(words []string, length int) string {
	if length == 0 && !slices.Contains(words, "") {
		return ""
	}
	begin := strings.Repeat("a", max(length, 1)-1)
	last := byte(' ')
	for slices.Contains(words, begin+string(rune(last))) {
		last++
	}
	return begin + string(rune(last))
}

// lengthOutside returns the number of the elements of the witness for two List types, and whether t permits so many, so that it is the first element that does not fit.
func lengthOutside(s, t api.Type) (n int, bounded bool) {
	switch {
	case s.Min < t.Min:
		return s.Min, false
	case s.Max > t.Max:
		return max(s.Min, t.Max+1), false
	}
	return max(s.Min, 1), true
}

// placeOutside returns the index of the field of s that has a value in the witness for two Record types that t does not take, or -1 if its absence, or that of a field of t, is the reason.
func placeOutside(s, t api.Type) int {
	i := firstForeign(s, t)
	if i >= 0 && within(s.Fields[i].Type, typeOf(t, s.Fields[i].Name)) {
		return -1
	}
	return i
}

// typeOf returns the type of a field or case, or a type without a kind, within which no type is, if there is none.
func typeOf(t api.Type, name string) api.Type {
	i, has := placesOf(t)[name]
	if !has {
		return api.Type{}
	}
	return t.Fields[i].Type
}
