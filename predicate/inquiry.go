package predicate

import (
	"manifold/api"
	"manifold/schema"
	"manifold/value"
)

// inquiry is the question whether demands can be met together by environments of a type. It has, for the paths of sampled types with which conditions compare constants, the texts that make a difference.
type inquiry struct {
	env     api.Type
	samples map[string][]string
	demands []demand
}

type demand struct {
	condition condition
	outcome   int
}

// newInquiry returns the inquiry for demands that are in order.
func newInquiry(env api.Type, l []Demand) inquiry {
	q := inquiry{env: env, samples: allSamples(env, l)}
	for _, d := range l {
		q.demands = append(q.demands, demand{q.condition(d.Expr), d.Outcome})
	}
	return q
}

// allSamples returns the samples of all sampled types whose values the conditions of demands compare with constants.
func allSamples(env api.Type, l []Demand) map[string][]string {
	places := map[string]place{}
	texts := map[string][]string{}
	for _, d := range l {
		for e := range parts(d.Expr) {
			x, p, is := atom(env, e)
			if !is || !isSampled(p.t) {
				continue
			}
			places[p.path] = p
			for _, c := range x.constants {
				texts[p.path] = append(texts[p.path], c.Text)
			}
		}
	}
	all := map[string][]string{}
	for at, p := range places {
		all[at] = samples(p.t, texts[at])
	}
	return all
}

// count returns the number of cases, but at most MaxCases + 1.
func (q inquiry) count() int {
	n := 1
	for _, d := range q.demands {
		n = capped(n * d.condition.counts[d.outcome])
	}
	return n
}

// decide returns whether the demands can be met, and an environment that does.
func (q inquiry) decide() (answer int, witness api.Value) {
	switch q.count() {
	case 0:
		return No, api.Value{}
	case MaxCases + 1:
		return Unknown, api.Value{}
	}
	answer = No
	eachOfAll(q.demands, scenario{}, func(s scenario) bool {
		f, is := factsOf(s.needs)
		switch {
		case is && s.opaque:
			answer = Unknown
		case is:
			answer, witness = Yes, q.witness(f)
		}
		return answer != Yes
	})
	return answer, witness
}

// eachOfAll calls a function with all combinations of the cases of demands, until it returns false, and reports whether it did not.
func eachOfAll(l []demand, earlier scenario, yield func(scenario) bool) bool {
	if len(l) == 0 {
		return yield(earlier)
	}
	return l[0].condition.each(l[0].outcome, earlier, func(s scenario) bool { return eachOfAll(l[1:], s, yield) })
}

// facts has, for each aspect, the numbers that are possible for it at paths where something is required.
type facts [numAspects]map[string]set

// factsOf returns the facts that follow from requirements, and reports whether they do not contradict each other. Requirements of different paths and aspects never do, because each one comes together with the choices that lead to it.
func factsOf(l []requirement) (f facts, is bool) {
	var needed [numAspects]map[string][]set
	for i := range needed {
		f[i], needed[i] = map[string]set{}, map[string][]set{}
	}
	for _, r := range l {
		needed[r.aspect][r.path] = append(needed[r.aspect][r.path], r.numbers)
	}
	for i, m := range needed {
		for at, sets := range m {
			f[i][at] = combineAll(sets, inBoth)
			if len(f[i][at]) == 0 {
				return facts{}, false
			}
		}
	}
	return f, true
}

// least returns the least number that is possible for an aspect at a path, and reports whether something is required of it.
func (f facts) least(aspect int, at string) (n int, required bool) {
	s, required := f[aspect][at]
	if !required {
		return 0, false
	}
	return s[0].low, true
}

// witness returns an environment for which the facts hold, and which is otherwise the least one.
func (q inquiry) witness(f facts) api.Value {
	v, _ := schema.Least(q.env)
	return q.changed(f, q.env, "", v)
}

// changed returns a value of a type, at a path, in which what the facts require is changed.
func (q inquiry) changed(f facts, t api.Type, at string, v api.Value) api.Value {
	switch t.Kind {
	case api.List:
		return v // plain paths lead into none
	case api.Record:
		return q.changedRecord(f, t, at, v)
	case api.Variant:
		return q.changedVariant(f, t, at, v)
	}
	if n, required := f.least(content, at); required {
		return newDomain(t, q.samples[at]).value(n)
	}
	return v
}

func (q inquiry) changedRecord(f facts, t api.Type, at string, v api.Value) api.Value {
	var l []api.Field
	for _, field := range t.Fields {
		here := field.Name
		if at != "" {
			here = at + "." + field.Name
		}
		x, there := value.Field(v, field.Name)
		n, required := f.least(presence, here)
		switch {
		case required && n == 0:
			continue
		case required && !there:
			x, _ = schema.Least(field.Type)
		case !there:
			continue
		}
		l = append(l, api.Field{Name: field.Name, Value: q.changed(f, field.Type, here, x)})
	}
	return value.Record(l...)
}

func (q inquiry) changedVariant(f facts, t api.Type, at string, v api.Value) api.Value {
	if n, required := f.least(alternative, at); required && t.Fields[n].Name != v.Text {
		x, _ := schema.Least(t.Fields[n].Type)
		v = value.Variant(t.Fields[n].Name, x)
	}
	c, _ := schema.Field(t, v.Text)
	return value.Variant(v.Text, q.changed(f, c.Type, at+"?"+c.Name, v.List[0]))
}
