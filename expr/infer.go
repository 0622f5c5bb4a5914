package expr

import (
	"slices"
	"strconv"

	"manifold/api"
	"manifold/charset"
	"manifold/path"
	"manifold/schema"
	"manifold/subtype"
)

// The numbers of bytes of texts of numbers, dates and times.
const (
	maxNumberText = 17
	dateText      = 10
	minTimeText   = 20
	maxTimeText   = 24
)

// inference infers expressions for environments of a type, and keeps the first error. After it, nothing is inferred any more.
type inference struct {
	env   api.Type
	rules map[int]rule
	err   api.Errno
}

// rule returns what is known of an expression with an operation, apart from what its arguments do to it.
type rule func(f *inference, e api.Expr, args []Result) Result

// rules returns the rules of all operations.
func rules() map[int]rule {
	return map[int]rule{
		api.OpValue:    func(f *inference, e api.Expr, args []Result) Result { return total(typeOf(e.Value[0])) },
		api.OpPath:     func(f *inference, e api.Expr, args []Result) Result { return f.at(e.Text) },
		api.OpHas:      (*inference).has,
		api.OpSum:      (*inference).sum,
		api.OpNot:      judging(areTruths),
		api.OpAnd:      judging(areTruths),
		api.OpOr:       judging(areTruths),
		api.OpEqual:    judging(areComparable),
		api.OpUnequal:  judging(areComparable),
		api.OpIn:       judging(areComparable),
		api.OpLess:     judging(haveOrder),
		api.OpAtMost:   judging(haveOrder),
		api.OpGreater:  judging(haveOrder),
		api.OpAtLeast:  judging(haveOrder),
		api.OpElse:     (*inference).otherwise,
		api.OpIf:       (*inference).choose,
		api.OpAdd:      scaled(func(a, b bounds) bounds { return bounds{a.low + b.low, a.high + b.high} }),
		api.OpSubtract: scaled(func(a, b bounds) bounds { return bounds{a.low - b.high, a.high - b.low} }),
		api.OpMultiply: (*inference).multiply,
		api.OpDivide:   (*inference).divide,
		api.OpNegate:   (*inference).negate,
		api.OpConcat:   (*inference).concat,
		api.OpLength:   (*inference).length,
		api.OpLower:    converted(charset.Lower),
		api.OpUpper:    converted(charset.Upper),
		api.OpSlice:    (*inference).slice,
		api.OpText:     (*inference).text,
		api.OpNumber:   (*inference).number,
	}
}

// total returns the result for an operation that never fails.
func total(t api.Type) Result { return Result{Type: t, Total: true} }

// judging returns the rule of an operation whose value is a Bool if its arguments have types that are permitted.
func judging(permits func(args []Result) bool) rule {
	return func(f *inference, e api.Expr, args []Result) Result {
		if !permits(args) {
			return f.fail(api.ErrType)
		}
		return total(api.Type{Kind: api.Bool})
	}
}

func (f *inference) fail(failure api.Errno) Result {
	f.err = failure
	return Result{}
}

// infer returns what is known of an expression.
func (f *inference) infer(e api.Expr) Result {
	args := make([]Result, len(e.Args))
	sure := true
	for i, x := range e.Args {
		args[i] = f.infer(x)
		if f.err != api.OK {
			return Result{}
		}
		sure = sure && args[i].Total && (!args[i].Absent || mayLack(e.Op, i))
	}
	r := f.rules[e.Op](f, e, args)
	r.Total = r.Total && sure
	return r
}

// mayLack reports whether the argument of an operation with an index may be absent.
func mayLack(op, i int) bool { return op == api.OpElse || op == api.OpIf && i > 0 }

// typeOf returns the least type of a scalar.
func typeOf(v api.Value) api.Type {
	switch v.Kind {
	case api.Bool:
		return api.Type{Kind: api.Bool}
	case api.Text:
		return api.Type{Kind: api.Text, Words: []string{v.Text}}
	case api.Bytes:
		return api.Type{Kind: api.Bytes, Min: len(v.Text), Max: len(v.Text)}
	}
	return api.Type{Kind: v.Kind, Min: v.Int, Max: v.Int, Scale: v.Scale}
}

// at returns what is known of the value at a path.
func (f *inference) at(s string) Result {
	l, _ := path.Parse(s)
	t, absent, failure := schema.At(f.env, l)
	if failure != api.OK {
		return f.fail(api.ErrPath)
	}
	return Result{Type: t, Absent: absent, Total: true}
}

func (f *inference) has(e api.Expr, args []Result) Result {
	f.at(e.Text)
	return total(api.Type{Kind: api.Bool})
}

func (f *inference) sum(e api.Expr, args []Result) Result {
	t := f.at(e.Text).Type
	switch {
	case f.err != api.OK:
		return Result{}
	case !isAddend(t.Kind, t.Scale, e.Int):
		return f.fail(api.ErrType)
	}
	count := f.most(e.Text)
	b := brought(t, e.Int).times(count)
	r := clipped(sumKind(e.Int), e.Int, bounds{min(0, b.low), max(0, b.high)})
	r.Total = r.Total && count <= api.MaxList
	return r
}

// most returns the greatest number of values at a path that leads to a type.
func (f *inference) most(s string) int {
	l, _ := path.Parse(s)
	t, count := f.env, 1
	for _, p := range l {
		switch p.Kind {
		case path.All:
			count = product(count, t.Max)
			t = t.Elem[0]
		case path.Index:
			t = t.Elem[0]
		default:
			behind, _ := schema.Field(t, p.Name)
			t = behind.Type
		}
	}
	return count
}

// every reports whether something holds for the types of all arguments.
func every(args []Result, is func(t api.Type) bool) bool {
	return !slices.ContainsFunc(args, func(r Result) bool { return !is(r.Type) })
}

func areTruths(args []Result) bool {
	return every(args, func(t api.Type) bool { return t.Kind == api.Bool })
}

// areComparable reports whether the first argument can be equal to each other one.
func areComparable(args []Result) bool {
	return every(args[1:], func(t api.Type) bool { return canBeEqual(args[0].Type, t) })
}

// canBeEqual reports whether values of two types may be compared.
func canBeEqual(s, t api.Type) bool {
	switch s.Kind {
	case api.List, api.Record, api.Variant:
		return schema.Equal(s, t)
	}
	return s.Kind == t.Kind || areNumbers(s.Kind, t.Kind)
}

func haveOrder(args []Result) bool { return areOrdered(args[0].Type.Kind, args[1].Type.Kind) }

func (f *inference) otherwise(e api.Expr, args []Result) Result {
	r := f.join(args[0], args[1])
	r.Absent = args[1].Absent
	return r
}

func (f *inference) choose(e api.Expr, args []Result) Result {
	if !areTruths(args[:1]) {
		return f.fail(api.ErrType)
	}
	r := f.join(args[1], args[2])
	r.Absent = args[1].Absent || args[2].Absent
	return r
}

// join returns the result for an operation that has the value of one of two arguments.
func (f *inference) join(a, b Result) Result {
	t, failure := subtype.Join(a.Type, b.Type)
	if failure != api.OK {
		return f.fail(api.ErrType)
	}
	return total(t)
}

func areTexts(args []Result) bool {
	return every(args, func(t api.Type) bool { return t.Kind == api.Text })
}

func (f *inference) concat(e api.Expr, args []Result) Result {
	if !areTexts(args) {
		return f.fail(api.ErrType)
	}
	a, b := lengths(args[0].Type), lengths(args[1].Type)
	t := api.Type{Kind: api.Text, Min: min(a.low+b.low, api.MaxText), Max: min(a.high+b.high, api.MaxText)}
	return Result{Type: t, Total: t.Max == a.high+b.high}
}

// lengths returns the least and the greatest length of the values of a type that have one.
func lengths(t api.Type) bounds {
	if len(t.Words) == 0 {
		return bounds{t.Min, t.Max}
	}
	b := bounds{low: api.MaxText}
	for _, word := range t.Words {
		b = bounds{min(b.low, len(word)), max(b.high, len(word))}
	}
	return b
}

func (f *inference) length(e api.Expr, args []Result) Result {
	t := args[0].Type
	switch t.Kind {
	case api.Text, api.Bytes, api.List:
		b := lengths(t)
		return total(api.Type{Kind: api.Int, Min: b.low, Max: b.high})
	}
	return f.fail(api.ErrType)
}

// converted returns the rule of an operation that converts a text.
func converted(convert func(s string) string) rule {
	return func(f *inference, e api.Expr, args []Result) Result {
		t := args[0].Type
		if t.Kind != api.Text {
			return f.fail(api.ErrType)
		}
		var words []string
		for _, word := range t.Words {
			words = append(words, convert(word))
		}
		slices.Sort(words)
		t.Words = slices.Compact(words)
		return total(t)
	}
}

func (f *inference) slice(e api.Expr, args []Result) Result {
	text, from, to := args[0].Type, args[1].Type, args[2].Type
	if text.Kind != api.Text || from.Kind != api.Int || to.Kind != api.Int {
		return f.fail(api.ErrType)
	}
	const pointBytes = 4 // the greatest number of bytes of a code point
	most := max(0, pointBytes*(to.Max-max(0, from.Min)))
	t := api.Type{Kind: api.Text, Max: min(lengths(text).high, most)}
	return Result{Type: t, Total: from.Min >= 0 && from.Max <= to.Min}
}

func (f *inference) text(e api.Expr, args []Result) Result {
	t := api.Type{Kind: api.Text}
	switch from := args[0].Type; from.Kind {
	case api.Bool:
		t.Words = []string{strconv.FormatBool(false), strconv.FormatBool(true)}
	case api.Int, api.Decimal:
		t.Min, t.Max = 1, maxNumberText
	case api.Date:
		t.Min, t.Max = dateText, dateText
	case api.Time:
		t.Min, t.Max = minTimeText, maxTimeText
	case api.Text:
		t = from
	default:
		return f.fail(api.ErrType)
	}
	return total(t)
}

func (f *inference) number(e api.Expr, args []Result) Result {
	if !areTexts(args) {
		return f.fail(api.ErrType)
	}
	return Result{Type: api.Type{Kind: api.Int, Min: -api.MaxNumber, Max: api.MaxNumber}}
}
