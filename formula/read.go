package formula

import (
	"manifold/api"
	"manifold/lexer"
)

// reader reads expressions from a stream. It counts what is open: parentheses, and the words and hyphens before an argument. After an error, the stream has no more tokens, so that its methods find nothing more to do.
type reader struct {
	t        *lexer.Stream
	open     int
	binaries [primaryBinding]map[string]int
	calls    map[string]func(r *reader) api.Expr
}

// binaries returns the operations with two arguments by their words and symbols, for each binding.
func binaries() [primaryBinding]map[string]int {
	var l [primaryBinding]map[string]int
	for op, n := range notations {
		if n.binding == primaryBinding || op == api.OpNot || op == api.OpNegate || op == api.OpIn {
			continue
		}
		if l[n.binding] == nil {
			l[n.binding] = map[string]int{}
		}
		l[n.binding][n.text] = op
	}
	return l
}

// calls returns what reads the calls, behind their words.
func calls() map[string]func(r *reader) api.Expr {
	m := map[string]func(r *reader) api.Expr{
		"divide": (*reader).divide,
		"has":    (*reader).has,
		"sum":    (*reader).sum,
	}
	for _, op := range []int{api.OpLength, api.OpLower, api.OpUpper, api.OpText, api.OpNumber} {
		m[notations[op].text] = calling(op, 1)
	}
	for _, op := range []int{api.OpSlice, api.OpIf} {
		m[notations[op].text] = calling(op, 3)
	}
	return m
}

// calling returns what reads a call with a number of arguments.
func calling(op, count int) func(r *reader) api.Expr {
	return func(r *reader) api.Expr {
		x := api.Expr{Op: op}
		r.begin("(")
		for i := range count {
			if i > 0 {
				r.t.Expect(",")
			}
			x.Args = append(x.Args, r.expression())
		}
		r.end(")")
		return x
	}
}

// begin takes a token that opens something, unless too much is open.
func (r *reader) begin(text string) {
	if r.open == MaxNest && r.t.Is(text) {
		r.t.Fail(api.ErrDepth)
	}
	r.t.Expect(text)
	r.open++
}

// end takes the token that closes what was opened last.
func (r *reader) end(text string) {
	r.t.Expect(text)
	r.open--
}

func (r *reader) expression() api.Expr { return r.operand(orBinding) }

// operand reads an expression that binds at least as firmly as is needed.
func (r *reader) operand(binding int) api.Expr {
	switch binding {
	case notBinding:
		return r.negation()
	case comparisonBinding:
		return r.comparison()
	case negateBinding:
		return r.unary()
	}
	return r.operations(binding)
}

// operations reads operations with a binding, which are combined from the left.
func (r *reader) operations(binding int) api.Expr {
	x := r.operand(binding + 1)
	for {
		op, is := r.operator(binding)
		if !is {
			return x
		}
		x = operation(op, x, r.operand(binding+1))
	}
}

// operator takes a token that stands between arguments, if it is one with a binding, and returns its operation.
func (r *reader) operator(binding int) (op int, is bool) {
	op, is = r.binaries[binding][r.t.Peek().Text]
	if is {
		r.t.Next()
	}
	return op, is
}

func operation(op int, args ...api.Expr) api.Expr { return api.Expr{Op: op, Args: args} }

func (r *reader) negation() api.Expr {
	if !r.t.Is("not") {
		return r.operand(comparisonBinding)
	}
	return r.prefix(api.OpNot)
}

// prefix reads an operation that stands before its argument, which binds as firmly as the operation.
func (r *reader) prefix(op int) api.Expr {
	r.begin(notations[op].text)
	x := operation(op, r.operand(notations[op].binding))
	r.open--
	return x
}

func (r *reader) comparison() api.Expr {
	x := r.operand(elseBinding)
	if r.t.Accept("in") {
		return r.in(x)
	}
	op, is := r.operator(comparisonBinding)
	if !is {
		return x
	}
	return operation(op, x, r.operand(elseBinding))
}

// in reads the expressions with which another one is compared.
func (r *reader) in(x api.Expr) api.Expr {
	r.begin("(")
	x = operation(api.OpIn, x, r.expression())
	for r.t.Accept(",") {
		x.Args = append(x.Args, r.expression())
	}
	r.end(")")
	return x
}

func (r *reader) unary() api.Expr {
	if !r.t.Is("-") || isNegative(r.t) {
		return r.primary()
	}
	return r.prefix(api.OpNegate)
}

func (r *reader) primary() api.Expr {
	if v, is := readValue(r.t); is {
		return api.Expr{Op: api.OpValue, Value: []api.Value{v}}
	}
	if r.t.Is("(") {
		r.begin("(")
		x := r.expression()
		r.end(")")
		return x
	}
	if call := r.calls[r.t.Peek().Text]; call != nil {
		r.t.Next()
		return call(r)
	}
	return api.Expr{Op: api.OpPath, Text: ReadPath(r.t)}
}

func (r *reader) divide() api.Expr {
	r.begin("(")
	x := operation(api.OpDivide, r.expression())
	r.t.Expect(",")
	x.Args = append(x.Args, r.expression())
	r.t.Expect(",")
	x.Int = r.t.Int(0, api.MaxScale)
	r.end(")")
	return x
}

func (r *reader) has() api.Expr {
	r.begin("(")
	x := api.Expr{Op: api.OpHas, Text: ReadPath(r.t)}
	r.end(")")
	return x
}

func (r *reader) sum() api.Expr {
	r.begin("(")
	x := api.Expr{Op: api.OpSum, Text: ReadPath(r.t)}
	if r.t.Accept(",") {
		x.Int = r.t.Int(0, api.MaxScale)
	}
	r.end(")")
	return x
}
