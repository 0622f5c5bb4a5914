package mapping

import (
	"cmp"
	"iter"
	"slices"
	"strings"

	"manifold/api"
	"manifold/expr"
	"manifold/fit"
	"manifold/path"
	"manifold/value"
)

// Apply returns the record of a type that a mapping makes of a record.
func Apply(m api.Mapping, env api.Value, target api.Type) (api.Value, api.Errno) {
	targets, e := parse(m)
	if e != api.OK {
		return api.Value{}, e
	}
	if env.Kind != api.Record {
		return api.Value{}, api.ErrKind
	}
	v, e := made(m.Rules, targets, env, target)
	if e != api.OK {
		return api.Value{}, e
	}
	v, e = fit.Complete(target, v)
	if e != api.OK {
		return api.Value{}, e
	}
	if e := value.Check(v); e != api.OK {
		return api.Value{}, e
	}
	return v, api.OK
}

// made returns the record that rules make, without defaults. What is wrong with an expression comes before what is wrong with the record, even if its rule is a later one, so that each error is kept by itself.
func made(rules []api.Rule, targets [][]path.Part, env api.Value, target api.Type) (api.Value, api.Errno) {
	s := evaluation{env: env}
	b := building{record: value.Record()}
	absent := api.OK
	for p, x := range s.values(rules, targets) {
		b.put(p, x)
		if value.IsNull(x) && isRequired(target, p) {
			absent = api.ErrAbsent
		}
	}
	return b.record, cmp.Or(s.err, b.err, absent)
}

// evaluation evaluates the expressions of rules, and keeps the first error. After it, nothing is evaluated any more.
type evaluation struct {
	env api.Value
	err api.Errno
}

// values yields the Targets of rules, and the values of their expressions, which are Null if they are absent.
func (s *evaluation) values(rules []api.Rule, targets [][]path.Part) iter.Seq2[[]path.Part, api.Value] {
	return func(yield func([]path.Part, api.Value) bool) {
		for i, r := range rules {
			var x api.Value
			if x, s.err = expr.Eval(r.Expr, s.env); s.err != api.OK || !yield(targets[i], x) {
				return
			}
		}
	}
}

// building builds a record in place, because path.Set would copy it for each rule, and keeps an error. What is put into it behind the error is lost.
type building struct {
	record api.Value
	err    api.Errno
}

// put adds the records on the way to a path of fields, and puts a value there unless it is Null.
func (b *building) put(p []path.Part, x api.Value) {
	at := &b.record
	last := len(p) - 1
	for _, part := range p[:last] {
		at = b.field(at, part.Name)
	}
	if !value.IsNull(x) {
		*b.field(at, p[last].Name) = x
	}
}

// field returns what a record has in the field with a name, which is added with a record without fields if it is not there.
func (b *building) field(record *api.Value, name string) *api.Value {
	i, has := slices.BinarySearchFunc(record.Fields, name, func(f api.Field, name string) int { return strings.Compare(f.Name, name) })
	switch {
	case !has && len(record.Fields) >= api.MaxFields:
		b.err = api.ErrLimit
		return &api.Value{}
	case !has:
		record.Fields = slices.Insert(record.Fields, i, api.Field{Name: name, Value: value.Record()})
	}
	return &record.Fields[i].Value
}
