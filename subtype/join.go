package subtype

import (
	"slices"

	"manifold/api"
	"manifold/schema"
)

// join returns the join of two valid types, which may share memory with them, and whether there is one.
func join(s, t api.Type) (api.Type, bool) {
	switch {
	case schema.Equal(s, t):
		return s, true
	case s.Kind != t.Kind || s.Scale != t.Scale || s.Kind == api.Record || s.Kind == api.Variant:
		return api.Type{}, false
	case s.Kind == api.Text:
		return joinTexts(s, t), true
	}
	j := api.Type{Kind: s.Kind, Min: min(s.Min, t.Min), Max: max(s.Max, t.Max), Scale: s.Scale}
	if s.Kind != api.List {
		return j, true
	}
	elem, ok := joinElements(s, t)
	if !ok {
		return api.Type{}, false
	}
	j.Elem = []api.Type{elem}
	return j, true
}

// joinElements returns the element type of the join of two List types. The elements of a list that is always empty do not matter.
func joinElements(s, t api.Type) (api.Type, bool) {
	switch {
	case s.Max == 0:
		return t.Elem[0], true
	case t.Max == 0:
		return s.Elem[0], true
	}
	return join(s.Elem[0], t.Elem[0])
}

func joinTexts(s, t api.Type) api.Type {
	a, b := wordsOf(s), wordsOf(t)
	if len(a) > 0 && len(b) > 0 {
		words := slices.Concat(a, b)
		slices.Sort(words)
		words = slices.Compact(words)
		if len(words) <= api.MaxWords {
			return api.Type{Kind: api.Text, Words: words}
		}
	}
	shortest, longest := lengthsOf(s)
	least, most := lengthsOf(t)
	return api.Type{Kind: api.Text, Min: min(shortest, least), Max: max(longest, most)}
}

// wordsOf returns the texts of a Text type if they are words, or the empty text only.
func wordsOf(t api.Type) []string {
	if len(t.Words) == 0 && t.Max == 0 {
		return []string{""}
	}
	return t.Words
}

// lengthsOf returns the least and the greatest number of bytes of the texts of a Text type.
func lengthsOf(t api.Type) (least, most int) {
	if len(t.Words) == 0 {
		return t.Min, t.Max
	}
	least = api.MaxText
	for _, word := range t.Words {
		least, most = min(least, len(word)), max(most, len(word))
	}
	return least, most
}
