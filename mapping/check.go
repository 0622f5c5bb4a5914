package mapping

import (
	"manifold/api"
	"manifold/expr"
	"manifold/path"
	"manifold/schema"
	"manifold/subtype"
)

// Check returns whether a mapping always succeeds for records of a type, or the error if it is not one from records of this type to those of another one.
func Check(m api.Mapping, env, target api.Type) (total bool, e api.Errno) {
	targets, e := parse(m)
	if e != api.OK {
		return false, e
	}
	if e := checkRecord(env); e != api.OK {
		return false, e
	}
	if e := checkRecord(target); e != api.OK {
		return false, e
	}
	total = true
	for i, r := range m.Rules {
		sure, e := checkRule(targets[i], r.Expr, env, target)
		if e != api.OK {
			return false, e
		}
		total = total && sure
	}
	if isLacking(target, targets) {
		return false, api.ErrField
	}
	return total, api.OK
}

// checkRule returns whether a rule always succeeds, or its error for two record types.
func checkRule(p []path.Part, x api.Expr, env, target api.Type) (total bool, e api.Errno) {
	t, _, e := schema.At(target, p)
	if e != api.OK {
		return false, e
	}
	r, e := expr.Infer(x, env)
	switch {
	case e != api.OK:
		return false, e
	case r.Type.Kind != t.Kind || r.Type.Scale != t.Scale: // types other than Decimals have the scale 0
		return false, api.ErrType
	}
	within, _ := subtype.Within(r.Type, t)
	return r.Total && within && !(r.Absent && isRequired(target, p)), api.OK
}

// isRequired reports whether a path of fields leads to a Required field of a type.
func isRequired(t api.Type, p []path.Part) bool {
	need := 0
	for _, part := range p {
		f, known := schema.Field(t, part.Name)
		if t.Kind != api.Record || !known {
			return false
		}
		t, need = f.Type, f.Need
	}
	return need == api.Required
}

// isLacking reports whether a Required field of a record type, or of a Record that is made in it, is neither given nor made. All Targets lead to fields of the type, and none lies within another one.
func isLacking(t api.Type, targets [][]path.Part) bool {
	for _, f := range t.Fields {
		l := behind(targets, f.Name)
		switch {
		case len(l) == 0 && f.Need == api.Required:
			return true
		case len(l) > 0 && len(l[0]) > 0 && isLacking(f.Type, l):
			return true
		}
	}
	return false
}

// behind returns what remains of the paths that begin with the field with a name. It is one empty path if this field is given.
func behind(targets [][]path.Part, name string) [][]path.Part {
	var l [][]path.Part
	for _, p := range targets {
		if p[0].Name == name {
			l = append(l, p[1:])
		}
	}
	return l
}
