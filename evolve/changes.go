package evolve

import (
	"manifold/api"
	"manifold/schema"
)

// report takes the path and the kind of a change.
type report func(at string, kind int)

// differ reports the changes between two valid types at a path, in order.
func differ(old, new api.Type, at string, found report) {
	switch {
	case schema.Equal(old, new):
	case old.Kind != new.Kind && !(isNumber(old) && isNumber(new)):
		found(at, Retyped)
	case old.Kind == api.Record || old.Kind == api.Variant:
		differInFields(old, new, at, found)
	case old.Kind == api.List:
		if old.Min != new.Min || old.Max != new.Max {
			found(at, widened(boundsWithin(old, new)))
		}
		differ(old.Elem[0], new.Elem[0], at+"[*]", found)
	default:
		found(at, widened(compatible(old, new)))
	}
}

// widened returns the kind of a change of bounds.
func widened(is bool) int {
	if is {
		return Widened
	}
	return Narrowed
}

// differInFields reports the changes between two types with fields or cases.
func differInFields(old, new api.Type, at string, found report) {
	before, after := byNumber(old), byNumber(new)
	for _, f := range new.Fields {
		here := partOf(new, at, f.Name)
		g, known := before[f.Number]
		if !known {
			found(here, Added)
			continue
		}
		if f.Name != g.Name {
			found(here, Renamed)
		}
		if f.Need != g.Need {
			found(here, Needed)
		}
		differ(g.Type, f.Type, here, found)
	}
	for _, g := range old.Fields {
		if _, kept := after[g.Number]; !kept {
			found(partOf(new, at, g.Name), Removed)
		}
	}
}

// partOf returns the path of a field or a case of a type at a path.
func partOf(t api.Type, at, name string) string {
	switch {
	case t.Kind == api.Variant:
		return at + "?" + name
	case at == "":
		return name
	}
	return at + "." + name
}
