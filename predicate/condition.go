package predicate

import (
	"iter"
	"slices"

	"manifold/api"
	"manifold/value"
)

// scenario is a case of demands: what is required, and whether something opaque is among it.
type scenario struct {
	needs  []requirement
	opaque bool
}

// and returns the combination of two cases. Those that begin with the same one share its memory: each is left before the next one is made.
func (s scenario) and(further scenario) scenario {
	return scenario{append(s.needs, further.needs...), s.opaque || further.opaque}
}

// condition is a condition: an operation that combines others, or a part with cases of its own for the outcomes.
type condition struct {
	op     int // OpNot, OpAnd, OpOr, or 0
	args   []condition
	own    [Fails + 1][]scenario
	counts [Fails + 1]int // of cases, but at most MaxCases + 1
}

func isConnective(op int) bool { return op == api.OpNot || op == api.OpAnd || op == api.OpOr }

// parts yields the parts of a condition that are not combined of others.
func parts(e api.Expr) iter.Seq[api.Expr] {
	return func(yield func(api.Expr) bool) { visitParts(e, yield) }
}

// visitParts yields the parts of a condition, and reports whether it was not stopped.
func visitParts(e api.Expr, yield func(api.Expr) bool) bool {
	if !isConnective(e.Op) {
		return yield(e)
	}
	return !slices.ContainsFunc(e.Args, func(x api.Expr) bool { return !visitParts(x, yield) })
}

// condition returns a condition with its cases.
func (q inquiry) condition(e api.Expr) condition {
	var c condition
	if !isConnective(e.Op) {
		c.own = q.cases(e)
		for outcome, l := range c.own {
			c.counts[outcome] = len(l)
		}
		return c
	}
	c.op = e.Op
	for _, x := range e.Args {
		c.args = append(c.args, q.condition(x))
	}
	for outcome := True; outcome <= Fails; outcome++ {
		c.counts[outcome] = c.count(outcome)
	}
	return c
}

// opposite returns the outcome that the argument of a negation has.
func opposite(outcome int) int {
	switch outcome {
	case True:
		return False
	case False:
		return True
	}
	return Fails
}

// open returns the outcome of the first argument for which the second one is evaluated.
func (c condition) open() int {
	if c.op == api.OpAnd {
		return True
	}
	return False
}

// count returns the number of cases of a combined condition.
func (c condition) count(outcome int) int {
	first := c.args[0].counts
	if c.op == api.OpNot {
		return first[opposite(outcome)]
	}
	n := first[c.open()] * c.args[1].counts[outcome]
	if outcome != c.open() {
		n += first[outcome]
	}
	return capped(n)
}

func capped(n int) int { return min(n, MaxCases+1) }

// each calls a function with the cases of a condition, combined with an earlier one, until it returns false, and reports whether it did not.
func (c condition) each(outcome int, earlier scenario, yield func(scenario) bool) bool {
	switch c.op {
	case api.OpNot:
		return c.args[0].each(opposite(outcome), earlier, yield)
	case api.OpAnd, api.OpOr:
		return c.eachOfBoth(outcome, earlier, yield)
	}
	for _, s := range c.own[outcome] {
		if !yield(earlier.and(s)) {
			return false
		}
	}
	return true
}

// eachOfBoth is each for an operation with two arguments.
func (c condition) eachOfBoth(outcome int, earlier scenario, yield func(scenario) bool) bool {
	first, second := c.args[0], c.args[1]
	if outcome != c.open() && !first.each(outcome, earlier, yield) {
		return false
	}
	// The first one can have any number of cases that the second one makes none of.
	if second.counts[outcome] == 0 {
		return true
	}
	return first.each(c.open(), earlier, func(s scenario) bool { return second.each(outcome, s, yield) })
}

// isOpaque reports whether a condition has an opaque part.
func (c condition) isOpaque() bool {
	isOpaque := func(s scenario) bool { return s.opaque }
	return slices.ContainsFunc(c.own[True], isOpaque) || slices.ContainsFunc(c.args, condition.isOpaque)
}

// cases returns the cases of a part of a condition, for each outcome.
func (q inquiry) cases(e api.Expr) (l [Fails + 1][]scenario) {
	if e.Op == api.OpValue {
		outcome := True
		if e.Value[0].Int == 0 {
			outcome = False
		}
		l[outcome] = []scenario{{}}
		return l
	}
	if e.Op == api.OpHas {
		if p, plain := find(q.env, e.Text); plain {
			l[True], l[False] = []scenario{p.reached()}, p.missed()
			return l
		}
	}
	if x, p, is := atom(q.env, e); is {
		d := newDomain(p.t, q.samples[p.path])
		met := d.whereAny(x.op, x.constants)
		l[True] = []scenario{p.having(met)}
		l[False] = []scenario{p.having(combine(between(d.low, d.high), met, inFirstOnly))}
		l[Fails] = p.missed()
		return l
	}
	for outcome := True; outcome <= Fails; outcome++ {
		l[outcome] = []scenario{{opaque: true}}
	}
	return l
}

// comparison compares what is at a path with constants; it is true if one of these makes it true.
type comparison struct {
	path      string
	op        int
	constants []api.Value
}

// atom returns the comparison of an atom that has one, and where its path leads.
func atom(env api.Type, e api.Expr) (x comparison, p place, is bool) {
	if x, is = comparisonOf(e); !is {
		return comparison{}, place{}, false
	}
	p, is = find(env, x.path)
	is = is && (x.op == api.OpEqual || x.op == api.OpUnequal || !isSampled(p.t))
	return x, p, is
}

// comparisonOf returns the comparison of an expression that compares a path with constants only.
func comparisonOf(e api.Expr) (x comparison, is bool) {
	isConstant := func(x api.Expr) bool { return x.Op == api.OpValue }
	args, op := e.Args, e.Op
	switch {
	case e.Op == api.OpPath:
		return comparison{e.Text, api.OpEqual, []api.Value{value.Bool(true)}}, true
	case e.Op == api.OpIn:
		op = api.OpEqual
	case e.Op < api.OpEqual || e.Op > api.OpAtLeast:
		return comparison{}, false
	case isConstant(args[0]):
		args, op = []api.Expr{args[1], args[0]}, mirrored(e.Op)
	}
	if args[0].Op != api.OpPath {
		return comparison{}, false
	}
	x = comparison{path: args[0].Text, op: op}
	for _, c := range args[1:] {
		if !isConstant(c) {
			return comparison{}, false
		}
		x.constants = append(x.constants, c.Value[0])
	}
	return x, true
}

// mirrored returns the comparison that is true if another one is with exchanged arguments.
func mirrored(op int) int {
	switch op {
	case api.OpLess:
		return api.OpGreater
	case api.OpAtMost:
		return api.OpAtLeast
	case api.OpGreater:
		return api.OpLess
	case api.OpAtLeast:
		return api.OpAtMost
	}
	return op
}
