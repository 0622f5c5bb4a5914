package parser

import (
	"manifold/api"
	"manifold/formula"
)

// maxRules is the maximum number of rules of a mapping.
const maxRules = 256

// allSteps returns what reads the steps behind their first words.
func allSteps() map[string]func(p *parser, s *api.Step) {
	return map[string]func(p *parser, s *api.Step){
		"filter":    (*parser).filter,
		"map":       (*parser).mapStep,
		"split":     (*parser).split,
		"aggregate": (*parser).aggregate,
		"order":     (*parser).order,
		"unique":    (*parser).unique,
		"throttle":  (*parser).throttle,
		"delay":     (*parser).delay,
		"call":      (*parser).callStep,
		"saga":      (*parser).saga,
		"choose":    (*parser).choose,
		"multicast": (*parser).multicast,
		"to":        (*parser).to,
		"reject":    (*parser).reject,
	}
}

// stepList reads steps between braces.
func (p *parser) stepList() []api.Step {
	p.t.Expect("{")
	l := list(p.t, api.MaxFields, p.isWord, p.step)
	p.t.Expect("}")
	return l
}

// step reads a step, which begins with a word. One that begins no step can only be a name.
func (p *parser) step() api.Step {
	var s api.Step
	if p.steps[p.t.Peek().Text] == nil || isBefore(p.t, ":") {
		s.Name = p.word()
		p.t.Expect(":")
	}
	read := p.steps[p.t.Peek().Text]
	if read == nil {
		p.t.Fail(api.ErrSyntax)
		return api.Step{}
	}
	p.t.Next()
	read(p, &s)
	return s
}

// expression reads an expression of a step behind a word.
func (p *parser) expression(s *api.Step, word string) {
	p.t.Expect(word)
	s.Exprs = append(s.Exprs, formula.Read(p.t))
}

// numberBehind reads a number behind a word.
func (p *parser) numberBehind(word string) int {
	p.t.Expect(word)
	return p.number()
}

// optionalNumber reads a number behind a word, if this is there.
func (p *parser) optionalNumber(word string) int {
	if !p.t.Is(word) {
		return 0
	}
	return p.numberBehind(word)
}

// waiting reads how long and how many messages a step holds.
func (p *parser) waiting(s *api.Step) {
	s.Time = p.optionalNumber("within")
	s.Limit = p.numberBehind("limit")
}

// result reads the messages that a step makes, and the end of the step.
func (p *parser) result(s *api.Step) {
	p.t.Expect("to")
	s.Schema = p.word()
	s.Mapping = p.rules()
	p.t.Expect(";")
}

func (p *parser) rules() api.Mapping {
	p.t.Expect("{")
	l := list(p.t, maxRules, p.isWord, p.rule)
	p.t.Expect("}")
	return api.Mapping{Rules: l}
}

func (p *parser) rule() api.Rule {
	r := api.Rule{Target: ReadTarget(p.t)}
	p.t.Expect("=")
	r.Expr = formula.Read(p.t)
	p.t.Expect(";")
	return r
}

// request reads a request behind its first word.
func (p *parser) request() api.Call { return api.Call{Service: p.word(), Mapping: p.rules()} }

func (p *parser) filter(s *api.Step) {
	s.Kind = api.StepFilter
	s.Exprs = []api.Expr{formula.Read(p.t)}
	p.t.Expect("reason")
	s.Text = p.text()
	p.t.Expect(";")
}

func (p *parser) mapStep(s *api.Step) {
	s.Kind = api.StepMap
	p.result(s)
}

func (p *parser) split(s *api.Step) {
	s.Kind = api.StepSplit
	s.Text = formula.ReadPath(p.t)
	p.result(s)
}

func (p *parser) aggregate(s *api.Step) {
	s.Kind = api.StepAggregate
	p.expression(s, "by")
	if p.t.Is("when") {
		p.expression(s, "when")
	}
	s.Number = p.optionalNumber("count")
	p.waiting(s)
	p.result(s)
}

func (p *parser) order(s *api.Step) {
	s.Kind = api.StepOrder
	p.expression(s, "by")
	p.expression(s, "number")
	p.waiting(s)
	p.t.Expect(";")
}

func (p *parser) unique(s *api.Step) {
	s.Kind = api.StepUnique
	p.expression(s, "by")
	s.Number = p.numberBehind("keep")
	p.t.Expect(";")
}

func (p *parser) throttle(s *api.Step) {
	s.Kind = api.StepThrottle
	s.Number = p.number()
	s.Time = p.numberBehind("per")
	s.Limit = p.numberBehind("limit")
	p.t.Expect(";")
}

func (p *parser) delay(s *api.Step) {
	s.Kind = api.StepDelay
	s.Time = p.number()
	s.Limit = p.numberBehind("limit")
	p.t.Expect(";")
}

func (p *parser) callStep(s *api.Step) {
	s.Kind = api.StepCall
	s.Calls = []api.Call{p.request()}
	p.waiting(s)
	p.result(s)
}

func (p *parser) saga(s *api.Step) {
	s.Kind = api.StepSaga
	p.t.Expect("{")
	s.Calls = list(p.t, api.MaxFields, func() bool { return p.t.Is("call") }, func() api.Call {
		p.t.Next()
		return p.request()
	})
	p.t.Expect("}")
	p.waiting(s)
	p.result(s)
}

func (p *parser) choose(s *api.Step) {
	s.Kind = api.StepChoose
	complete := false // nothing follows the branch without a condition
	p.t.Expect("{")
	s.Branches = list(p.t, api.MaxFields, func() bool { return !complete && (p.t.Is("when") || p.t.Is("otherwise")) }, func() api.Branch {
		var b api.Branch
		complete = p.t.Next().Text == "otherwise"
		if !complete {
			b.When = []api.Expr{formula.Read(p.t)}
		}
		b.Steps = p.branch()
		return b
	})
	p.t.Expect("}")
}

func (p *parser) multicast(s *api.Step) {
	s.Kind = api.StepMulticast
	p.t.Expect("{")
	s.Branches = list(p.t, api.MaxFields, func() bool { return p.t.Is("branch") }, func() api.Branch {
		p.t.Next()
		return api.Branch{Steps: p.branch()}
	})
	p.t.Expect("}")
}

// branch reads the steps of a branch.
func (p *parser) branch() []api.Step {
	if p.t.Is("{") {
		p.branches.begin(p.t)
		defer p.branches.end()
	}
	return p.stepList()
}

func (p *parser) to(s *api.Step) {
	s.Kind = api.StepTo
	s.Text = p.word()
	p.t.Expect(";")
}

func (p *parser) reject(s *api.Step) {
	s.Kind = api.StepReject
	s.Text = p.text()
	p.t.Expect(";")
}
