package mapping_test

import (
	"slices"
	"strings"

	"manifold/api"
	"manifold/expr"
	"manifold/fit"
	"manifold/path"
	"manifold/schema"
	"manifold/subtype"
	"manifold/value"
)

// This file has the functions in the words of the document, with paths as texts.

func parsed(s string) []path.Part {
	l, _ := path.Parse(s)
	return l
}

func liesWithin(a, b string) bool { return a == b || strings.HasPrefix(a, b+".") }

func formAsDefined(m M) api.Errno {
	if len(m.Rules) > 256 {
		return api.ErrLimit
	}
	for i, r := range m.Rules {
		if _, e := path.Parse(r.Target); e != api.OK {
			return e
		}
		if strings.ContainsAny(r.Target, "[?") {
			return api.ErrPath
		}
		for _, s := range m.Rules[:i] {
			if liesWithin(r.Target, s.Target) || liesWithin(s.Target, r.Target) {
				return api.ErrDuplicate
			}
		}
	}
	return api.OK
}

func recordAsDefined(t T) api.Errno {
	if e := schema.Check(t); e != api.OK || t.Kind == api.Record {
		return e
	}
	return api.ErrKind
}

func isGiven(m M, s string) bool {
	return slices.ContainsFunc(m.Rules, func(r api.Rule) bool { return r.Target == s })
}

func isMade(m M, s string, t T) bool {
	return t.Kind == api.Record && !isGiven(m, s) && slices.ContainsFunc(m.Rules, func(r api.Rule) bool { return liesWithin(r.Target, s) })
}

// needs calls a function for the Required fields of a record and of all Records in it that are made, with their paths.
func needs(m M, t T, prefix string, found func(s string, t T)) {
	for _, f := range t.Fields {
		if f.Need == api.Required {
			found(prefix+f.Name, f.Type)
		}
		if isMade(m, prefix+f.Name, f.Type) {
			needs(m, f.Type, prefix+f.Name+".", found)
		}
	}
}

// fieldOf returns the field of a type to which a path of fields leads, by fields of Records.
func fieldOf(t T, s string) (F, bool) {
	name, rest, more := strings.Cut(s, ".")
	if t.Kind != api.Record {
		return F{}, false
	}
	for _, f := range t.Fields {
		if f.Name == name && more {
			return fieldOf(f.Type, rest)
		}
		if f.Name == name {
			return f, true
		}
	}
	return F{}, false
}

func checkAsDefined(m M, env, target T) (bool, api.Errno) {
	for _, e := range []api.Errno{formAsDefined(m), recordAsDefined(env), recordAsDefined(target)} {
		if e != api.OK {
			return false, e
		}
	}
	total := true
	for _, r := range m.Rules {
		t, _, e := schema.At(target, parsed(r.Target))
		if e != api.OK {
			return false, e
		}
		x, e := expr.Infer(r.Expr, env)
		if e != api.OK {
			return false, e
		}
		if x.Type.Kind != t.Kind || t.Kind == api.Decimal && x.Type.Scale != t.Scale {
			return false, api.ErrType
		}
		f, _ := fieldOf(target, r.Target)
		is, _ := subtype.Within(x.Type, t)
		if !x.Total || !is || x.Absent && f.Need == api.Required {
			total = false
		}
	}
	e := api.OK
	needs(m, target, "", func(s string, t T) {
		if !isGiven(m, s) && !isMade(m, s, t) {
			e = api.ErrField
		}
	})
	return total && e == api.OK, e
}

func applyAsDefined(m M, env V, target T) (V, api.Errno) {
	if e := formAsDefined(m); e != api.OK {
		return V{}, e
	}
	if env.Kind != api.Record {
		return V{}, api.ErrKind
	}
	var l []V
	for _, r := range m.Rules {
		x, e := expr.Eval(r.Expr, env)
		if e != api.OK {
			return V{}, e
		}
		l = append(l, x)
	}
	v, e := setAsDefined(m, l)
	if e != api.OK {
		return V{}, e
	}
	for i, r := range m.Rules {
		if f, is := fieldOf(target, r.Target); value.IsNull(l[i]) && is && f.Need == api.Required {
			return V{}, api.ErrAbsent
		}
	}
	v, e = fit.Complete(target, v)
	if e != api.OK {
		return V{}, e
	}
	if e := value.Check(v); e != api.OK {
		return V{}, e
	}
	return v, api.OK
}

// setAsDefined returns the record with values at the Targets of rules, and the records on the way to them.
func setAsDefined(m M, l []V) (V, api.Errno) {
	v := value.Record()
	e := api.OK
	for i, r := range m.Rules {
		parts := parsed(r.Target)
		for n := 1; n < len(parts); n++ {
			if _, e := path.Get(v, parts[:n]); e == api.OK {
				continue
			}
			if v, e = path.Set(v, parts[:n], value.Record()); e != api.OK {
				return V{}, e
			}
		}
		if value.IsNull(l[i]) {
			continue
		}
		if v, e = path.Set(v, parts, l[i]); e != api.OK {
			return V{}, e
		}
	}
	return v, api.OK
}
