package evolve

import (
	"slices"

	"manifold/api"
	"manifold/fit"
	"manifold/value"
)

// compatible reports whether two valid types are compatible.
func compatible(old, new api.Type) bool {
	switch {
	case isNumber(old) && isNumber(new):
		return compatibleNumbers(old, new)
	case old.Kind != new.Kind:
		return false
	}
	switch old.Kind {
	case api.Bool:
		return true
	case api.Text:
		return compatibleTexts(old, new)
	case api.List:
		return boundsWithin(old, new) && (old.Max == 0 || compatible(old.Elem[0], new.Elem[0]))
	case api.Record:
		return compatibleRecords(old, new)
	case api.Variant:
		return compatibleVariants(old, new)
	}
	return boundsWithin(old, new)
}

func isNumber(t api.Type) bool { return t.Kind == api.Int || t.Kind == api.Decimal }

func boundsWithin(old, new api.Type) bool { return new.Min <= old.Min && old.Max <= new.Max }

// compatibleNumbers reports whether all numbers have an upgrade. Of two next to each other, at most one can be written with a lesser scale.
func compatibleNumbers(old, new api.Type) bool {
	if new.Scale < old.Scale && old.Min != old.Max {
		return false
	}
	least, ok := rescaled(old.Min, old.Scale, new.Scale)
	if !ok || least < new.Min {
		return false
	}
	most, ok := rescaled(old.Max, old.Scale, new.Scale)
	return ok && most <= new.Max
}

func compatibleTexts(old, new api.Type) bool {
	switch {
	case len(old.Words) > 0:
		return !slices.ContainsFunc(old.Words, func(word string) bool { return !fit.Fits(new, value.Text(word)) })
	case len(new.Words) > 0:
		// There are more texts of any other length than words.
		return old.Max == 0 && slices.Contains(new.Words, "")
	}
	return boundsWithin(old, new)
}

func compatibleRecords(old, new api.Type) bool {
	before := byNumber(old)
	for _, f := range new.Fields {
		g, known := before[f.Number]
		switch {
		case isLacking(g, known, f):
			return false
		case known && !compatible(g.Type, f.Type):
			return false
		}
	}
	return true
}

// isLacking reports whether there are records without the old field g, if it is known, for a new field f that needs it.
func isLacking(g api.TypeField, known bool, f api.TypeField) bool {
	return f.Need == api.Required && (!known || g.Need == api.Optional)
}

func compatibleVariants(old, new api.Type) bool {
	after := byNumber(new)
	return !slices.ContainsFunc(old.Fields, func(g api.TypeField) bool {
		f, kept := after[g.Number]
		return !kept || !compatible(g.Type, f.Type)
	})
}

// keeps reports whether a new type keeps an old one that is compatible with it.
func keeps(old, new api.Type) bool {
	switch old.Kind {
	case api.List:
		return old.Max == 0 || keeps(old.Elem[0], new.Elem[0])
	case api.Record, api.Variant:
		// The new type has all cases of a Variant, because it is compatible, and cases are never Optional.
		after := byNumber(new)
		return !slices.ContainsFunc(old.Fields, func(g api.TypeField) bool {
			f, kept := after[g.Number]
			return !kept || g.Need == api.Optional && f.Need != api.Optional || !keeps(g.Type, f.Type)
		})
	}
	return true
}
