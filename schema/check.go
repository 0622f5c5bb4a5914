package schema

import (
	"manifold/api"
	"manifold/value"
)

// limits are the least Min and the greatest Max of the kinds. The kinds that do not use them have 0 as the greatest one.
var limits = [...]struct{ least, most int }{
	api.Int:     {-api.MaxNumber, api.MaxNumber},
	api.Decimal: {-api.MaxNumber, api.MaxNumber},
	api.Text:    {0, api.MaxText},
	api.Bytes:   {0, api.MaxText},
	api.Date:    {value.MinDate, value.MaxDate},
	api.Time:    {value.MinTime, value.MaxTime},
	api.List:    {0, api.MaxList},
	api.Variant: {0, 0},
}

// Check returns the first error of a type.
func Check(t api.Type) api.Errno {
	visited := 0
	for s := range stops(t) {
		var e api.Errno
		switch {
		case s.field != nil:
			e = checkDefault(*s.field)
		case visited == api.MaxNodes:
			e = api.ErrLimit
		case s.level > api.MaxDepth:
			e = api.ErrDepth
		default:
			e = checkAlone(*s.t)
			visited++
		}
		if e != api.OK {
			return e
		}
	}
	if _, greatest := leastSize(t); greatest > api.MaxNodes {
		return api.ErrLimit
	}
	return api.OK
}

// CheckSchema returns the first error of a schema.
func CheckSchema(s api.Schema) api.Errno {
	switch {
	case !value.IsName(s.Name):
		return api.ErrName
	case s.Version < 1 || s.Version > api.MaxVersion:
		return api.ErrRange
	case s.Type.Kind != api.Record:
		return api.ErrKind
	}
	return Check(s.Type)
}

// checkAlone returns the first error of a type without its parts.
func checkAlone(t api.Type) api.Errno {
	switch {
	case t.Kind < api.Bool || t.Kind > api.Variant:
		return api.ErrKind
	case usesMore(t):
		return api.ErrFormat
	case len(t.Words) > 0:
		return checkWords(t)
	case !inLimits(t):
		return api.ErrRange
	}
	switch t.Kind {
	case api.List:
		return one(len(t.Elem))
	case api.Record:
		return checkFields(t)
	case api.Variant:
		if len(t.Fields) == 0 {
			return api.ErrShort
		}
		return checkFields(t)
	}
	return api.OK
}

// usesMore reports whether a type has something that its kind does not use.
func usesMore(t api.Type) bool {
	hasFields := t.Kind == api.Record || t.Kind == api.Variant
	return limits[t.Kind].most == 0 && (t.Min != 0 || t.Max != 0) ||
		t.Kind != api.Decimal && t.Scale != 0 ||
		t.Kind != api.Text && len(t.Words) > 0 ||
		t.Kind != api.List && len(t.Elem) > 0 ||
		!hasFields && len(t.Fields) > 0
}

// inLimits reports whether Min, Max and Scale are as they should be, which are 0 where a kind does not use them.
func inLimits(t api.Type) bool {
	l := limits[t.Kind]
	return l.least <= t.Min && t.Min <= t.Max && t.Max <= l.most && t.Scale >= 0 && t.Scale <= api.MaxScale
}

func checkWords(t api.Type) api.Errno {
	switch {
	case t.Min != 0 || t.Max != 0:
		return api.ErrFormat
	case len(t.Words) > api.MaxWords:
		return api.ErrLimit
	}
	for i, word := range t.Words {
		if e := value.Check(value.Text(word)); e != api.OK {
			return e
		}
		switch {
		case i > 0 && word == t.Words[i-1]:
			return api.ErrDuplicate
		case i > 0 && word < t.Words[i-1]:
			return api.ErrOrder
		}
	}
	return api.OK
}

// one returns the error of a number of things that has to be 1.
func one(n int) api.Errno {
	switch {
	case n == 0:
		return api.ErrShort
	case n > 1:
		return api.ErrFormat
	}
	return api.OK
}

// checkFields returns the first error of the fields of a record, or of the cases of a variant, without their types.
func checkFields(t api.Type) api.Errno {
	if len(t.Fields) > api.MaxFields {
		return api.ErrLimit
	}
	for i, f := range t.Fields {
		switch {
		case !value.IsName(f.Name):
			return api.ErrName
		case f.Number < 1 || f.Number > MaxField:
			return api.ErrRange
		case isTaken(t.Fields[:i], f):
			return api.ErrDuplicate
		case f.Need < api.Required || f.Need > api.Defaulted:
			return api.ErrKind
		case t.Kind == api.Variant && f.Need != api.Required:
			return api.ErrKind
		case f.Need == api.Defaulted:
			if e := one(len(f.Default)); e != api.OK {
				return e
			}
		case len(f.Default) > 0:
			return api.ErrFormat
		}
	}
	return api.OK
}

// isTaken reports whether one of the earlier fields has the name or the number of a field.
func isTaken(earlier []api.TypeField, f api.TypeField) bool {
	for _, other := range earlier {
		if other.Name == f.Name || other.Number == f.Number {
			return true
		}
	}
	return false
}

// checkDefault returns the error of the default of a field whose type, and everything else in it, has been found to be in order.
func checkDefault(f api.TypeField) api.Errno {
	if f.Need == api.Defaulted && !accepts(f.Type, f.Default[0]) {
		return api.ErrType
	}
	return api.OK
}

// leastSize returns of how many values the least value of a type consists, and the greatest such number of the type and of all types in it. All that is above the limit counts as the same, so that nothing overflows.
func leastSize(t api.Type) (size, greatest int) {
	size = 1
	switch t.Kind {
	case api.List:
		n, within := leastSize(t.Elem[0])
		size, greatest = 1+t.Min*n, within
	case api.Record, api.Variant:
		for i, f := range t.Fields {
			n, within := leastSize(f.Type)
			greatest = max(greatest, within)
			switch {
			case f.Need == api.Defaulted:
				size += value.Size(f.Default[0])
			case f.Need == api.Required && (t.Kind == api.Record || i == 0):
				size += n
			}
		}
	}
	size = min(size, api.MaxNodes+1)
	return size, max(size, greatest)
}
