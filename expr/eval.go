package expr

import (
	"cmp"
	"slices"
	"strconv"
	"strings"

	"manifold/api"
	"manifold/calendar"
	"manifold/charset"
	"manifold/decimal"
	"manifold/path"
	"manifold/value"
)

// evaluation evaluates expressions in an environment, and keeps the first error. After it, nothing is evaluated any more.
type evaluation struct {
	env        api.Value
	operations map[int]operation
	err        api.Errno
}

// operation returns the value of an expression with this operation, or Null if it is absent.
type operation func(v *evaluation, e api.Expr) api.Value

// operations returns all operations.
func operations() map[int]operation {
	return map[int]operation{
		api.OpValue:    func(v *evaluation, e api.Expr) api.Value { return value.Clone(e.Value[0]) },
		api.OpPath:     func(v *evaluation, e api.Expr) api.Value { return v.at(e.Text) },
		api.OpHas:      func(v *evaluation, e api.Expr) api.Value { return value.Bool(!value.IsNull(v.at(e.Text))) },
		api.OpSum:      (*evaluation).sum,
		api.OpAnd:      (*evaluation).and,
		api.OpOr:       (*evaluation).or,
		api.OpElse:     (*evaluation).otherwise,
		api.OpIf:       (*evaluation).choose,
		api.OpNot:      strict((*evaluation).not),
		api.OpEqual:    strict((*evaluation).isEqual),
		api.OpUnequal:  strict((*evaluation).isUnequal),
		api.OpIn:       strict((*evaluation).isIn),
		api.OpLess:     ordering(func(c int) bool { return c < 0 }),
		api.OpAtMost:   ordering(func(c int) bool { return c <= 0 }),
		api.OpGreater:  ordering(func(c int) bool { return c > 0 }),
		api.OpAtLeast:  ordering(func(c int) bool { return c >= 0 }),
		api.OpAdd:      calculating(decimal.Add),
		api.OpSubtract: calculating(decimal.Sub),
		api.OpMultiply: calculating(decimal.Mul),
		api.OpDivide:   (*evaluation).divide,
		api.OpNegate:   strict((*evaluation).negate),
		api.OpConcat:   strict((*evaluation).concat),
		api.OpLength:   strict((*evaluation).length),
		api.OpLower:    converting(charset.Lower),
		api.OpUpper:    converting(charset.Upper),
		api.OpSlice:    strict((*evaluation).slice),
		api.OpText:     strict((*evaluation).text),
		api.OpNumber:   strict((*evaluation).number),
	}
}

// strict returns an operation whose arguments are all evaluated, before a function of their values is called.
func strict(f func(v *evaluation, l []api.Value) api.Value) operation {
	return func(v *evaluation, e api.Expr) api.Value {
		l := make([]api.Value, len(e.Args))
		for i, x := range e.Args {
			l[i] = v.argument(x)
		}
		if v.err != api.OK {
			return api.Value{}
		}
		return f(v, l)
	}
}

// ordering returns an operation that judges how two values are ordered.
func ordering(is func(c int) bool) operation {
	return strict(func(v *evaluation, l []api.Value) api.Value { return value.Bool(is(v.compare(l[0], l[1]))) })
}

// calculating returns an operation that calculates with two numbers.
func calculating(f func(a, b api.Number) (api.Number, api.Errno)) operation {
	return strict(func(v *evaluation, l []api.Value) api.Value {
		if !v.needs(areNumbers(l[0].Kind, l[1].Kind)) {
			return api.Value{}
		}
		n, failure := f(numberOf(l[0]), numberOf(l[1]))
		v.fail(failure)
		return valueOf(numberKind(l[0].Kind, l[1].Kind), n)
	})
}

// converting returns an operation that converts a text.
func converting(f func(s string) string) operation {
	return strict(func(v *evaluation, l []api.Value) api.Value {
		v.needs(l[0].Kind == api.Text)
		return value.Text(f(l[0].Text))
	})
}

// fail keeps an error, if it is one and no other one was before.
func (v *evaluation) fail(failure api.Errno) {
	if v.err == api.OK {
		v.err = failure
	}
}

// needs fails unless arguments have the kinds that they need, and reports whether there is no error.
func (v *evaluation) needs(right bool) bool {
	if !right {
		v.fail(api.ErrType)
	}
	return v.err == api.OK
}

// value returns the value of an expression, or Null if it is absent.
func (v *evaluation) value(e api.Expr) api.Value {
	if v.err != api.OK {
		return api.Value{}
	}
	return v.operations[e.Op](v, e)
}

// argument returns the value of an expression that must not be absent.
func (v *evaluation) argument(e api.Expr) api.Value {
	x := v.value(e)
	if value.IsNull(x) {
		v.fail(api.ErrAbsent)
	}
	return x
}

// truth returns the value of an argument that has to be a Bool.
func (v *evaluation) truth(e api.Expr) bool {
	x := v.argument(e)
	return v.needs(x.Kind == api.Bool) && isTrue(x)
}

func isTrue(x api.Value) bool { return x.Int != 0 }

func numberOf(x api.Value) api.Number { return api.Number{Int: x.Int, Scale: x.Scale} }

func valueOf(kind int, n api.Number) api.Value {
	return api.Value{Kind: kind, Int: n.Int, Scale: n.Scale}
}

// at returns the value at a path, or Null if it is absent.
func (v *evaluation) at(s string) api.Value {
	l, _ := path.Parse(s)
	x, failure := path.Get(v.env, l)
	if failure != api.ErrAbsent {
		v.fail(failure)
	}
	return x
}

func (v *evaluation) sum(e api.Expr) api.Value {
	l, _ := path.Parse(e.Text)
	found, failure := path.Find(v.env, l)
	v.fail(failure)
	numbers := make([]api.Number, len(found))
	for i, x := range found {
		v.needs(isAddend(x.Kind, x.Scale, e.Int))
		numbers[i] = numberOf(x)
	}
	n, failure := decimal.Sum(numbers)
	v.fail(failure)
	n, failure = decimal.Round(n, e.Int) // which is exact, because the sum has no greater scale
	v.fail(failure)
	return valueOf(sumKind(e.Int), n)
}

func (v *evaluation) not(l []api.Value) api.Value {
	v.needs(l[0].Kind == api.Bool)
	return value.Bool(!isTrue(l[0]))
}

func (v *evaluation) and(e api.Expr) api.Value {
	return value.Bool(v.truth(e.Args[0]) && v.truth(e.Args[1]))
}

func (v *evaluation) or(e api.Expr) api.Value {
	return value.Bool(v.truth(e.Args[0]) || v.truth(e.Args[1]))
}

func (v *evaluation) otherwise(e api.Expr) api.Value {
	if x := v.value(e.Args[0]); !value.IsNull(x) {
		return x
	}
	return v.value(e.Args[1])
}

func (v *evaluation) choose(e api.Expr) api.Value {
	if v.truth(e.Args[0]) {
		return v.value(e.Args[1])
	}
	return v.value(e.Args[2])
}

// equal reports whether two values are equal, which have to be comparable.
func (v *evaluation) equal(a, b api.Value) bool {
	if areNumbers(a.Kind, b.Kind) {
		return v.compare(a, b) == 0
	}
	return v.needs(a.Kind == b.Kind) && value.Equal(a, b)
}

func (v *evaluation) isEqual(l []api.Value) api.Value { return value.Bool(v.equal(l[0], l[1])) }

func (v *evaluation) isUnequal(l []api.Value) api.Value { return value.Bool(!v.equal(l[0], l[1])) }

func (v *evaluation) isIn(l []api.Value) api.Value {
	return value.Bool(slices.ContainsFunc(l[1:], func(x api.Value) bool { return v.equal(l[0], x) }))
}

// compare orders two values of kinds that have an order.
func (v *evaluation) compare(a, b api.Value) int {
	if !v.needs(areOrdered(a.Kind, b.Kind)) {
		return 0
	}
	if isNumber(a.Kind) {
		c, failure := decimal.Compare(numberOf(a), numberOf(b))
		v.fail(failure)
		return c
	}
	return cmp.Or(cmp.Compare(a.Int, b.Int), strings.Compare(a.Text, b.Text))
}

func (v *evaluation) divide(e api.Expr) api.Value {
	quotient := func(a, b api.Number) (api.Number, api.Errno) { return decimal.Div(a, b, e.Int) }
	x := calculating(quotient)(v, e)
	x.Kind = api.Decimal
	return x
}

func (v *evaluation) negate(l []api.Value) api.Value {
	v.needs(isNumber(l[0].Kind))
	n, failure := decimal.Negate(numberOf(l[0]))
	v.fail(failure)
	return valueOf(l[0].Kind, n)
}

func (v *evaluation) concat(l []api.Value) api.Value {
	v.needs(l[0].Kind == api.Text && l[1].Kind == api.Text)
	if len(l[0].Text)+len(l[1].Text) > api.MaxText {
		v.fail(api.ErrLong)
	}
	return value.Text(l[0].Text + l[1].Text)
}

func (v *evaluation) length(l []api.Value) api.Value {
	switch l[0].Kind {
	case api.Text, api.Bytes:
		return value.Int(len(l[0].Text))
	case api.List:
		return value.Int(len(l[0].List))
	}
	v.fail(api.ErrType)
	return api.Value{}
}

func (v *evaluation) slice(l []api.Value) api.Value {
	if !v.needs(l[0].Kind == api.Text && l[1].Kind == api.Int && l[2].Kind == api.Int) {
		return api.Value{}
	}
	from, to := l[1].Int, l[2].Int
	points, failure := charset.Points(l[0].Text)
	v.fail(failure)
	if from < 0 || from > to {
		v.fail(api.ErrRange)
	}
	if v.err != api.OK {
		return api.Value{}
	}
	part, _ := charset.Text(points[min(from, len(points)):min(to, len(points))])
	return value.Text(part)
}

func (v *evaluation) text(l []api.Value) api.Value {
	var s string
	failure := api.OK
	switch x := l[0]; x.Kind {
	case api.Bool:
		s = strconv.FormatBool(isTrue(x))
	case api.Int, api.Decimal:
		s, failure = decimal.Text(numberOf(x))
	case api.Date:
		s, failure = calendar.Text(x.Int)
	case api.Time:
		s, failure = calendar.TimeText(x.Int)
	case api.Text:
		s = x.Text
	default:
		failure = api.ErrType
	}
	v.fail(failure)
	return value.Text(s)
}

func (v *evaluation) number(l []api.Value) api.Value {
	v.needs(l[0].Kind == api.Text)
	n, failure := decimal.Parse(l[0].Text)
	if failure != api.OK || n.Scale != 0 {
		v.fail(api.ErrSyntax)
	}
	return value.Int(n.Int)
}
