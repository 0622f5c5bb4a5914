package expr_test

import (
	"math/big"
	"slices"
	"strconv"
	"strings"
	"unicode/utf8"

	"manifold/api"
	"manifold/calendar"
	"manifold/path"
	"manifold/schema"
	"manifold/subtype"
	"manifold/value"
)

// failing is the panic with which the functions of this file end when there is an error.
type failing struct{ e api.Errno }

func fail(e api.Errno) { panic(failing{e}) }

// failure calls a function, and returns the error with which it ends.
func failure(f func()) (e api.Errno) {
	defer func() {
		switch x := recover().(type) {
		case nil:
		case failing:
			e = x.e
		default:
			panic(x)
		}
	}()
	f()
	return api.OK
}

func ensure(is bool, e api.Errno) {
	if !is {
		fail(e)
	}
}

// checkAsDefined checks an expression in the words of the document.
func checkAsDefined(e E) {
	visited := 0
	var visit func(e E, level int)
	visit = func(e E, level int) {
		ensure(visited < 256, api.ErrLimit)
		ensure(level <= 8, api.ErrDepth)
		ensure(e.Op >= 1 && e.Op <= 28, api.ErrKind)
		usesText := slices.Contains([]int{api.OpPath, api.OpHas, api.OpSum}, e.Op)
		usesInt := slices.Contains([]int{api.OpDivide, api.OpSum}, e.Op)
		ensure((e.Op == api.OpValue || len(e.Value) == 0) && (usesText || e.Text == "") && (usesInt || e.Int == 0), api.ErrFormat)
		least, greatest := arities[e.Op][0], arities[e.Op][1]
		ensure(len(e.Args) >= least, api.ErrShort)
		ensure(greatest < 0 || len(e.Args) <= greatest, api.ErrFormat)
		if e.Op == api.OpValue {
			ensure(len(e.Value) > 0, api.ErrShort)
			ensure(len(e.Value) == 1, api.ErrFormat)
			x := value.Check(e.Value[0])
			ensure(x == api.OK, x)
			ensure(e.Value[0].Kind < api.List, api.ErrType)
		}
		if usesText {
			_, x := path.Parse(e.Text)
			ensure(x == api.OK, x)
			ensure(strings.Contains(e.Text, "[*]") == (e.Op == api.OpSum), api.ErrPath)
		}
		ensure(!usesInt || e.Int >= 0 && e.Int <= 12, api.ErrRange)
		visited++
		for _, x := range e.Args {
			visit(x, level+1)
		}
	}
	visit(e, 1)
}

func ten(k int) *big.Int { return new(big.Int).Exp(big.NewInt(10), big.NewInt(int64(k)), nil) }

func isNumber(v V) bool { return v.Kind == api.Int || v.Kind == api.Decimal }

func ratio(v V) *big.Rat { return new(big.Rat).SetFrac(big.NewInt(int64(v.Int)), ten(v.Scale)) }

// fitted returns the number of a kind and a scale that denotes a ratio.
func fitted(x *big.Rat, kind, scale int) V {
	y := new(big.Rat).Mul(x, new(big.Rat).SetInt(ten(scale)))
	ensure(scale <= 12 && y.IsInt() && y.Num().CmpAbs(big.NewInt(most)) <= 0, api.ErrOverflow)
	return V{Kind: kind, Int: int(y.Num().Int64()), Scale: scale}
}

// halfEven returns the multiple of 10^-scale that is nearest to a ratio.
func halfEven(x *big.Rat, scale int) *big.Rat {
	y := new(big.Rat).Mul(x, new(big.Rat).SetInt(ten(scale)))
	down := new(big.Int).Div(y.Num(), y.Denom()) // the greatest integer that is not greater
	rest := new(big.Rat).Sub(y, new(big.Rat).SetInt(down))
	c := rest.Cmp(big.NewRat(1, 2))
	if c > 0 || c == 0 && down.Bit(0) == 1 {
		down.Add(down, big.NewInt(1))
	}
	return new(big.Rat).SetFrac(down, ten(scale))
}

// valuing evaluates in an environment in the words of the document.
type valuing struct{ env V }

// need returns the value of an argument, which must not be absent.
func (x valuing) need(e E) V {
	v := x.eval(e)
	ensure(!value.IsNull(v), api.ErrAbsent)
	return v
}

func (x valuing) truth(e E) bool {
	v := x.need(e)
	ensure(v.Kind == api.Bool, api.ErrType)
	return v.Int == 1
}

func (x valuing) at(s string) V {
	l, _ := path.Parse(s)
	v, e := path.Get(x.env, l)
	ensure(e != api.ErrPath, api.ErrPath)
	return v
}

func equalAsDefined(a, b V) bool {
	if isNumber(a) && isNumber(b) {
		return ratio(a).Cmp(ratio(b)) == 0
	}
	ensure(a.Kind == b.Kind, api.ErrType)
	return value.Equal(a, b)
}

func orderAsDefined(a, b V) int {
	switch {
	case isNumber(a) && isNumber(b):
		return ratio(a).Cmp(ratio(b))
	case a.Kind == api.Text && b.Kind == api.Text:
		return strings.Compare(a.Text, b.Text)
	}
	ensure(a.Kind == b.Kind && (a.Kind == api.Bool || a.Kind == api.Date || a.Kind == api.Time), api.ErrType)
	return big.NewInt(int64(a.Int)).Cmp(big.NewInt(int64(b.Int)))
}

func (x valuing) eval(e E) V {
	switch e.Op {
	case api.OpValue:
		return e.Value[0]
	case api.OpPath:
		return x.at(e.Text)
	case api.OpHas:
		return value.Bool(!value.IsNull(x.at(e.Text)))
	case api.OpSum:
		return x.sum(e)
	case api.OpAnd:
		return value.Bool(x.truth(e.Args[0]) && x.truth(e.Args[1]))
	case api.OpOr:
		return value.Bool(x.truth(e.Args[0]) || x.truth(e.Args[1]))
	case api.OpElse:
		if v := x.eval(e.Args[0]); !value.IsNull(v) {
			return v
		}
		return x.eval(e.Args[1])
	case api.OpIf:
		if x.truth(e.Args[0]) {
			return x.eval(e.Args[1])
		}
		return x.eval(e.Args[2])
	}
	var l []V
	for _, arg := range e.Args {
		l = append(l, x.need(arg))
	}
	if len(l) == 2 && e.Op >= api.OpAdd && e.Op <= api.OpDivide {
		return calculatedAsDefined(e, l[0], l[1])
	}
	return strictAsDefined(e, l)
}

func (x valuing) sum(e E) V {
	l, _ := path.Parse(e.Text)
	found, failed := path.Find(x.env, l)
	ensure(failed == api.OK, api.ErrPath)
	total := new(big.Rat)
	for _, v := range found {
		ensure(e.Int == 0 && v.Kind == api.Int || e.Int > 0 && isNumber(v) && v.Scale <= e.Int, api.ErrType)
		total.Add(total, ratio(v))
	}
	ensure(len(found) <= 256, api.ErrLimit)
	if e.Int == 0 {
		return fitted(total, api.Int, 0)
	}
	return fitted(total, api.Decimal, e.Int)
}

func calculatedAsDefined(e E, a, b V) V {
	ensure(isNumber(a) && isNumber(b), api.ErrType)
	kind := api.Decimal
	if a.Kind == api.Int && b.Kind == api.Int {
		kind = api.Int
	}
	x := new(big.Rat)
	switch e.Op {
	case api.OpAdd:
		return fitted(x.Add(ratio(a), ratio(b)), kind, max(a.Scale, b.Scale))
	case api.OpSubtract:
		return fitted(x.Sub(ratio(a), ratio(b)), kind, max(a.Scale, b.Scale))
	case api.OpMultiply:
		return fitted(x.Mul(ratio(a), ratio(b)), kind, a.Scale+b.Scale)
	}
	ensure(b.Int != 0, api.ErrDivide)
	return fitted(halfEven(x.Quo(ratio(a), ratio(b)), e.Int), api.Decimal, e.Int)
}

// converted returns a text whose bytes from one letter on, 26 of them, are converted.
func converted(s string, from, distance byte) string {
	b := []byte(s)
	for i, c := range b {
		if c >= from && c < from+26 {
			b[i] += distance
		}
	}
	return string(b)
}

func strictAsDefined(e E, l []V) V {
	a := l[0]
	isText := a.Kind == api.Text
	switch e.Op {
	case api.OpNot:
		ensure(a.Kind == api.Bool, api.ErrType)
		return value.Bool(a.Int == 0)
	case api.OpEqual:
		return value.Bool(equalAsDefined(a, l[1]))
	case api.OpUnequal:
		return value.Bool(!equalAsDefined(a, l[1]))
	case api.OpLess:
		return value.Bool(orderAsDefined(a, l[1]) < 0)
	case api.OpAtMost:
		return value.Bool(orderAsDefined(a, l[1]) <= 0)
	case api.OpGreater:
		return value.Bool(orderAsDefined(a, l[1]) > 0)
	case api.OpAtLeast:
		return value.Bool(orderAsDefined(a, l[1]) >= 0)
	case api.OpIn:
		for _, b := range l[1:] {
			if equalAsDefined(a, b) {
				return value.Bool(true)
			}
		}
		return value.Bool(false)
	case api.OpNegate:
		ensure(isNumber(a), api.ErrType)
		return V{Kind: a.Kind, Int: -a.Int, Scale: a.Scale}
	case api.OpConcat:
		ensure(isText && l[1].Kind == api.Text, api.ErrType)
		ensure(len(a.Text+l[1].Text) <= 1024, api.ErrLong)
		return value.Text(a.Text + l[1].Text)
	case api.OpLength:
		ensure(isText || a.Kind == api.Bytes || a.Kind == api.List, api.ErrType)
		return value.Int(len(a.Text) + len(a.List))
	case api.OpLower:
		ensure(isText, api.ErrType)
		return value.Text(converted(a.Text, 'A', 32))
	case api.OpUpper:
		ensure(isText, api.ErrType)
		return value.Text(converted(a.Text, 'a', 256-32))
	case api.OpSlice:
		return slicedAsDefined(a, l[1], l[2])
	case api.OpText:
		return textAsDefined(a)
	}
	ensure(isText, api.ErrType) // OpNumber
	n, err := strconv.ParseInt(a.Text, 10, 64)
	ensure(err == nil && strconv.FormatInt(n, 10) == a.Text && n >= -most && n <= most, api.ErrSyntax)
	return value.Int(int(n))
}

func slicedAsDefined(a, from, to V) V {
	ensure(a.Kind == api.Text && from.Kind == api.Int && to.Kind == api.Int, api.ErrType)
	ensure(utf8.ValidString(a.Text), api.ErrText)
	ensure(from.Int >= 0 && from.Int <= to.Int, api.ErrRange)
	s, i := "", 0
	for _, p := range a.Text {
		if i >= from.Int && i < to.Int {
			s += string(p)
		}
		i++
	}
	return value.Text(s)
}

func textAsDefined(a V) V {
	switch a.Kind {
	case api.Bool:
		return value.Text([]string{"false", "true"}[a.Int])
	case api.Int, api.Decimal:
		return value.Text(ratio(a).FloatString(a.Scale))
	case api.Date:
		s, _ := calendar.Text(a.Int)
		return value.Text(s)
	case api.Time:
		s, _ := calendar.TimeText(a.Int)
		return value.Text(s)
	}
	ensure(a.Kind == api.Text, api.ErrType)
	return a
}

// typing infers for a type of environments in the words of the document.
type typing struct{ env T }

func (x typing) at(s string) (T, bool) {
	l, _ := path.Parse(s)
	t, absent, e := schema.At(x.env, l)
	ensure(e == api.OK, api.ErrPath)
	return t, absent
}

// mayBeAbsent reports whether the argument of an operation with an index may be absent.
func mayBeAbsent(op, i int) bool { return op == api.OpElse || op == api.OpIf && i != 0 }

func (x typing) infer(e E) R {
	var l []T
	var args []R
	total := true
	for i, arg := range e.Args {
		r := x.infer(arg)
		l, args = append(l, r.Type), append(args, r)
		if !r.Total || r.Absent && !mayBeAbsent(e.Op, i) {
			total = false
		}
	}
	r := R{Total: true}
	switch {
	case e.Op == api.OpPath:
		r.Type, r.Absent = x.at(e.Text)
	case e.Op == api.OpHas:
		x.at(e.Text)
		r.Type = flag
	case e.Op == api.OpSum:
		r.Type, r.Total = x.sum(e)
	case e.Op == api.OpElse:
		r.Type, r.Absent = joined(l[0], l[1]), args[1].Absent
	case e.Op == api.OpIf:
		ensure(l[0].Kind == api.Bool, api.ErrType)
		r.Type, r.Absent = joined(l[1], l[2]), args[1].Absent || args[2].Absent
	case e.Op >= api.OpAdd && e.Op <= api.OpNegate:
		r.Type, r.Total = boundsAsDefined(e, l)
	default:
		r.Type, r.Total = typeAsDefined(e, l)
	}
	r.Total = r.Total && total
	return r
}

func joined(s, t T) T {
	j, e := subtype.Join(s, t)
	ensure(e == api.OK, api.ErrType)
	return j
}

func isNumeric(t T) bool { return t.Kind == api.Int || t.Kind == api.Decimal }

// clippedAsDefined returns the type of a number with bounds, and whether none is clipped.
func clippedAsDefined(kind, scale int, low, high *big.Int) (T, bool) {
	clip := func(n *big.Int) int {
		if n.CmpAbs(big.NewInt(most)) > 0 {
			return most * n.Sign()
		}
		return int(n.Int64())
	}
	t := T{Kind: kind, Scale: scale, Min: clip(low), Max: clip(high)}
	return t, low.Cmp(big.NewInt(int64(t.Min))) == 0 && high.Cmp(big.NewInt(int64(t.Max))) == 0
}

// scaledTo returns a bound at another scale.
func scaledTo(n, from, to int) *big.Int {
	x := big.NewInt(int64(n))
	return x.Mul(x, ten(to-from))
}

func (x typing) sum(e E) (T, bool) {
	t, _ := x.at(e.Text)
	ensure(e.Int == 0 && t.Kind == api.Int || e.Int > 0 && isNumeric(t) && t.Scale <= e.Int, api.ErrType)
	count := big.NewInt(1)
	for i := range len(e.Text) {
		if strings.HasPrefix(e.Text[i:], "[*]") {
			l, _ := x.at(e.Text[:i])
			count.Mul(count, big.NewInt(int64(l.Max)))
		}
	}
	low, high := scaledTo(t.Min, t.Scale, e.Int), scaledTo(t.Max, t.Scale, e.Int)
	low.Mul(low, count)
	high.Mul(high, count)
	if low.Sign() > 0 {
		low.SetInt64(0)
	}
	if high.Sign() < 0 {
		high.SetInt64(0)
	}
	kind := api.Decimal
	if e.Int == 0 {
		kind = api.Int
	}
	t, total := clippedAsDefined(kind, e.Int, low, high)
	return t, total && count.Cmp(big.NewInt(256)) <= 0
}

func boundsAsDefined(e E, l []T) (T, bool) {
	s := l[0]
	ensure(isNumeric(s), api.ErrType)
	if e.Op == api.OpNegate {
		return T{Kind: s.Kind, Scale: s.Scale, Min: -s.Max, Max: -s.Min}, true
	}
	t := l[1]
	ensure(isNumeric(t), api.ErrType)
	kind := api.Decimal
	if s.Kind == api.Int && t.Kind == api.Int {
		kind = api.Int
	}
	scale := max(s.Scale, t.Scale)
	x := new(big.Int)
	y := new(big.Int)
	switch e.Op {
	case api.OpAdd:
		return clippedAsDefined(kind, scale, x.Add(scaledTo(s.Min, s.Scale, scale), scaledTo(t.Min, t.Scale, scale)), y.Add(scaledTo(s.Max, s.Scale, scale), scaledTo(t.Max, t.Scale, scale)))
	case api.OpSubtract:
		return clippedAsDefined(kind, scale, x.Sub(scaledTo(s.Min, s.Scale, scale), scaledTo(t.Max, t.Scale, scale)), y.Sub(scaledTo(s.Max, s.Scale, scale), scaledTo(t.Min, t.Scale, scale)))
	case api.OpMultiply:
		ensure(s.Scale+t.Scale <= 12, api.ErrOverflow)
		var corners []*big.Int
		for _, a := range []int{s.Min, s.Max} {
			for _, b := range []int{t.Min, t.Max} {
				corners = append(corners, new(big.Int).Mul(big.NewInt(int64(a)), big.NewInt(int64(b))))
			}
		}
		slices.SortFunc(corners, (*big.Int).Cmp)
		return clippedAsDefined(kind, s.Scale+t.Scale, corners[0], corners[3])
	}
	q := scaledTo(max(s.Max, -s.Min, s.Min, -s.Max), 0, max(0, e.Int+t.Scale-s.Scale))
	r, total := clippedAsDefined(api.Decimal, e.Int, x.Neg(q), q)
	return r, total && (t.Min > 0 || t.Max < 0)
}

// lengthsAsDefined returns the least and the greatest length of the values of a type.
func lengthsAsDefined(t T) (least, greatest int) {
	if len(t.Words) == 0 {
		return t.Min, t.Max
	}
	var l []int
	for _, w := range t.Words {
		l = append(l, len(w))
	}
	return slices.Min(l), slices.Max(l)
}

func comparableAsDefined(s, t T) bool {
	if isNumeric(s) && isNumeric(t) {
		return true
	}
	return s.Kind == t.Kind && (s.Kind < api.List || schema.Equal(s, t))
}

func typeAsDefined(e E, l []T) (T, bool) {
	var s T
	if len(l) > 0 {
		s = l[0]
	}
	isText := s.Kind == api.Text
	least, greatest := lengthsAsDefined(s)
	switch e.Op {
	case api.OpValue:
		v := e.Value[0]
		switch v.Kind {
		case api.Bool:
			return flag, true
		case api.Text:
			return words(v.Text), true
		case api.Bytes:
			return bounded(api.Bytes, len(v.Text), len(v.Text)), true
		}
		return T{Kind: v.Kind, Scale: v.Scale, Min: v.Int, Max: v.Int}, true
	case api.OpNot, api.OpAnd, api.OpOr:
		for _, t := range l {
			ensure(t.Kind == api.Bool, api.ErrType)
		}
		return flag, true
	case api.OpEqual, api.OpUnequal, api.OpIn:
		for _, t := range l[1:] {
			ensure(comparableAsDefined(s, t), api.ErrType)
		}
		return flag, true
	case api.OpLess, api.OpAtMost, api.OpGreater, api.OpAtLeast:
		ensure(isNumeric(s) && isNumeric(l[1]) || s.Kind == l[1].Kind && slices.Contains([]int{api.Bool, api.Text, api.Date, api.Time}, s.Kind), api.ErrType)
		return flag, true
	case api.OpConcat:
		ensure(isText && l[1].Kind == api.Text, api.ErrType)
		a, b := lengthsAsDefined(l[1])
		return texts(min(least+a, 1024), min(greatest+b, 1024)), greatest+b <= 1024
	case api.OpLength:
		ensure(isText || s.Kind == api.Bytes || s.Kind == api.List, api.ErrType)
		return number(least, greatest), true
	case api.OpLower, api.OpUpper:
		ensure(isText, api.ErrType)
		return convertedAsDefined(e.Op, s), true
	case api.OpSlice:
		ensure(isText && l[1].Kind == api.Int && l[2].Kind == api.Int, api.ErrType)
		return texts(0, min(greatest, max(0, 4*(l[2].Max-max(l[1].Min, 0))))), l[1].Min >= 0 && l[1].Max <= l[2].Min
	case api.OpText:
		return textTypeAsDefined(s), true
	}
	ensure(isText, api.ErrType)
	return number(-most, most), false
}

func convertedAsDefined(op int, t T) T {
	set := map[string]bool{}
	for _, w := range t.Words {
		if op == api.OpLower {
			set[converted(w, 'A', 32)] = true
		} else {
			set[converted(w, 'a', 256-32)] = true
		}
	}
	out := texts(t.Min, t.Max)
	for w := range set {
		out.Words = append(out.Words, w)
	}
	slices.Sort(out.Words)
	return out
}

func textTypeAsDefined(t T) T {
	switch t.Kind {
	case api.Bool:
		return words("false", "true")
	case api.Int, api.Decimal:
		return texts(1, 17)
	case api.Date:
		return texts(10, 10)
	case api.Time:
		return texts(20, 24)
	}
	ensure(t.Kind == api.Text, api.ErrType)
	return t
}
