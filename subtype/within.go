package subtype

import (
	"slices"

	"manifold/api"
)

// within reports whether a valid type is within another one.
func within(s, t api.Type) bool { return s.Kind == t.Kind && kindRules()[s.Kind](s, t) }

// kindRules returns the rule of each kind for two types of this kind.
func kindRules() [api.Variant + 1]func(s, t api.Type) bool {
	return [...]func(s, t api.Type) bool{
		api.Bool:    boolWithin,
		api.Int:     boundsWithin,
		api.Decimal: decimalWithin,
		api.Text:    textWithin,
		api.Bytes:   boundsWithin,
		api.Date:    boundsWithin,
		api.Time:    boundsWithin,
		api.List:    listWithin,
		api.Record:  recordWithin,
		api.Variant: variantWithin,
	}
}

func boolWithin(s, t api.Type) bool { return true }

func boundsWithin(s, t api.Type) bool { return s.Min >= t.Min && s.Max <= t.Max }

func decimalWithin(s, t api.Type) bool { return s.Scale == t.Scale && boundsWithin(s, t) }

func textWithin(s, t api.Type) bool {
	switch {
	case len(s.Words) > 0:
		return firstOutside(s.Words, t) < 0
	case len(t.Words) > 0:
		// There are more texts of any other length than words.
		return s.Max == 0 && hasText(t, "")
	}
	return boundsWithin(s, t)
}

// firstOutside returns the index of the first word that is no text of a type, or -1.
func firstOutside(words []string, t api.Type) int {
	return slices.IndexFunc(words, func(word string) bool { return !hasText(t, word) })
}

// hasText reports whether a text is one of a Text type.
func hasText(t api.Type, text string) bool {
	if len(t.Words) > 0 {
		return slices.Contains(t.Words, text)
	}
	return t.Min <= len(text) && len(text) <= t.Max
}

func listWithin(s, t api.Type) bool {
	return boundsWithin(s, t) && (s.Max == 0 || within(s.Elem[0], t.Elem[0]))
}

func recordWithin(s, t api.Type) bool { return firstForeign(s, t) < 0 && !lacks(s, t) }

func variantWithin(s, t api.Type) bool { return firstForeign(s, t) < 0 }

// firstForeign returns the index of the first field or case of s for which t has none that takes all that it can be, or -1.
func firstForeign(s, t api.Type) int {
	places := placesOf(t)
	return slices.IndexFunc(s.Fields, func(f api.TypeField) bool {
		i, has := places[f.Name]
		return !has || !within(f.Type, t.Fields[i].Type) || f.Need == api.Optional && t.Fields[i].Need != api.Optional
	})
}

// lacks reports whether s has no field for one that the values of t always have.
func lacks(s, t api.Type) bool {
	places := placesOf(s)
	return slices.ContainsFunc(t.Fields, func(f api.TypeField) bool {
		_, has := places[f.Name]
		return !has && f.Need != api.Optional
	})
}

// placesOf returns the indices of the fields or cases of a type by their names.
func placesOf(t api.Type) map[string]int {
	places := map[string]int{}
	for i, f := range t.Fields {
		places[f.Name] = i
	}
	return places
}
