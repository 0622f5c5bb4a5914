package formula_test

import (
	"math/rand"
	"slices"
	"strconv"
	"strings"
	"testing"

	"manifold/api"
	"manifold/calendar"
	"manifold/expr"
	"manifold/formula"
	"manifold/lexer"
	"manifold/literal"
	"manifold/path"
	"manifold/value"
)

// failing is an error at a place.
type failing struct {
	line, column int
	e            api.Errno
}

// reading reads tokens in the words of the document, and panics with the first failure.
type reading struct {
	l       []lexer.Token
	i, open int
}

func (r *reading) next() lexer.Token { return r.l[r.i] }

func (r *reading) fail(e api.Errno) { panic(failing{r.next().Line, r.next().Column, e}) }

func (r *reading) ensure(is bool, e api.Errno) {
	if !is {
		r.fail(e)
	}
}

func (r *reading) is(l ...string) bool {
	x := r.next()
	return (x.Kind == lexer.Word || x.Kind == lexer.Symbol) && slices.Contains(l, x.Text)
}

func (r *reading) take(l ...string) string {
	r.ensure(r.is(l...), api.ErrSyntax)
	return r.kind(r.next().Kind).Text
}

func (r *reading) kind(kind int) lexer.Token {
	x := r.next()
	r.ensure(x.Kind == kind, api.ErrSyntax)
	r.i++
	return x
}

// opened takes something that is open while a function reads what belongs to it.
func (r *reading) opened(text string, read func()) {
	r.ensure(r.is(text), api.ErrSyntax)
	r.ensure(r.open < 32, api.ErrDepth)
	r.take(text)
	r.open++
	read()
	if text == "(" {
		r.take(")")
	}
	r.open--
}

// chain reads arguments with operators between them, combined from the left.
func (r *reading) chain(read func() E, operators map[string]int) E {
	x := read()
	for {
		n, is := operators[r.next().Text]
		if !is || r.next().Kind == lexer.String {
			return x
		}
		r.i++
		x = op(n, x, read())
	}
}

func (r *reading) expression() E { return r.chain(r.conjunction, map[string]int{"or": api.OpOr}) }

func (r *reading) conjunction() E { return r.chain(r.negation, map[string]int{"and": api.OpAnd}) }

func (r *reading) negation() (x E) {
	if !r.is("not") {
		return r.comparison()
	}
	r.opened("not", func() { x = not(r.negation()) })
	return x
}

func (r *reading) comparison() E {
	x := r.choice()
	operators := map[string]int{"=": api.OpEqual, "!=": api.OpUnequal, "<": api.OpLess, "<=": api.OpAtMost, ">": api.OpGreater, ">=": api.OpAtLeast}
	switch {
	case r.is("=", "!=", "<", "<=", ">", ">="):
		return op(operators[r.take(r.next().Text)], x, r.choice())
	case r.is("in"):
		r.take("in")
		x = op(api.OpIn, x)
		r.opened("(", func() {
			x.Args = append(x.Args, r.expression())
			for r.is(",") {
				r.take(",")
				x.Args = append(x.Args, r.expression())
			}
		})
	}
	return x
}

func (r *reading) choice() E { return r.chain(r.sum, map[string]int{"else": api.OpElse}) }

func (r *reading) sum() E {
	return r.chain(r.product, map[string]int{"+": api.OpAdd, "-": api.OpSubtract, "&": api.OpConcat})
}

func (r *reading) product() E { return r.chain(r.unary, map[string]int{"*": api.OpMultiply}) }

// isNegative reports whether the next tokens are a hyphen and a number directly behind it.
func (r *reading) isNegative() bool {
	return r.is("-") && r.l[r.i+1].Kind == lexer.Number && r.l[r.i+1].Joined
}

func (r *reading) unary() (x E) {
	if !r.is("-") || r.isNegative() {
		return r.primary()
	}
	r.opened("-", func() { x = negate(r.unary()) })
	return x
}

func (r *reading) isValue() bool {
	k := r.next().Kind
	return k == lexer.Number || k == lexer.String || k == lexer.Bytes || r.isNegative() || r.is("true", "false", "date", "time")
}

func (r *reading) primary() (x E) {
	calls := map[string]int{"length": api.OpLength, "lower": api.OpLower, "upper": api.OpUpper, "text": api.OpText, "number": api.OpNumber, "slice": api.OpSlice, "if": api.OpIf, "divide": api.OpDivide, "has": api.OpHas, "sum": api.OpSum}
	switch {
	case r.isValue():
		return lit(r.value())
	case r.is("("):
		r.opened("(", func() { x = r.expression() })
		return x
	case r.next().Kind == lexer.Word && calls[r.next().Text] > 0:
		x.Op = calls[r.take(r.next().Text)]
		r.opened("(", func() { r.inside(&x) })
		return x
	}
	return at(r.path())
}

// inside reads what stands between the parentheses of a call.
func (r *reading) inside(x *E) {
	if x.Op == api.OpHas || x.Op == api.OpSum {
		x.Text = r.path()
	}
	count := map[int]int{api.OpSlice: 3, api.OpIf: 3, api.OpDivide: 2, api.OpHas: 0, api.OpSum: 0}
	n, is := count[x.Op]
	if !is {
		n = 1
	}
	for i := range n {
		if i > 0 {
			r.take(",")
		}
		x.Args = append(x.Args, r.expression())
	}
	if x.Op == api.OpDivide || x.Op == api.OpSum && r.is(",") {
		r.take(",")
		t := r.next()
		r.ensure(t.Kind == lexer.Number, api.ErrSyntax)
		r.ensure(!strings.Contains(t.Text, ".") && t.Number.Int <= 12, api.ErrRange)
		x.Int = r.kind(lexer.Number).Number.Int
	}
}

func (r *reading) value() V {
	r.ensure(r.isValue(), api.ErrSyntax)
	switch x := r.next(); x.Kind {
	case lexer.String:
		return value.Text(r.kind(lexer.String).Value)
	case lexer.Bytes:
		return value.Bytes(r.kind(lexer.Bytes).Value)
	case lexer.Word:
		return r.wordValue(r.take(x.Text))
	}
	sign := 1
	if r.is("-") {
		r.take("-")
		sign = -1
	}
	x := r.kind(lexer.Number)
	if strings.ContainsAny(x.Text, ".d") {
		return value.Decimal(sign*x.Number.Int, x.Number.Scale)
	}
	return value.Int(sign * x.Number.Int)
}

func (r *reading) wordValue(word string) V {
	if word == "true" || word == "false" {
		return value.Bool(word == "true")
	}
	s := r.kind(lexer.String).Value
	if word == "date" {
		n, e := calendar.Parse(s)
		r.ensure(e == api.OK, e)
		return value.Date(n)
	}
	n, e := calendar.ParseTime(s)
	r.ensure(e == api.OK, e)
	return value.Time(n)
}

func (r *reading) path() string {
	r.ensure(!r.is(formula.Reserved()...), api.ErrSyntax)
	s := r.kind(lexer.Word).Text
	joined := func(kind int, l ...string) {
		x := r.next()
		r.ensure(x.Joined && x.Kind == kind && (len(l) == 0 || slices.Contains(l, x.Text)), api.ErrSyntax)
		s += x.Text
		r.i++
	}
	for r.next().Joined && r.is(".", "[", "?") {
		before := r.next().Text
		joined(lexer.Symbol, before)
		switch {
		case before != "[":
			joined(lexer.Word)
			continue
		case r.is("*"):
			joined(lexer.Symbol, "*")
		default:
			joined(lexer.Number)
		}
		joined(lexer.Symbol, "]")
	}
	_, e := path.Parse(s)
	r.ensure(e == api.OK, e)
	return s
}

// asDefined reads a text with a function, and returns the first failure, and how many tokens were read.
func asDefined(s string, read func(r *reading)) (found failing, count int) {
	l, line, column, e := lexer.Scan(s)
	if e != api.OK {
		return failing{line, column, e}, 0
	}
	r := &reading{l: l}
	defer func() {
		switch f := recover().(type) {
		case nil:
		case failing:
			found, count = f, r.i
		default:
			panic(f)
		}
	}()
	read(r)
	return failing{}, r.i
}

// whole reads an expression with the check at its end.
func (r *reading) whole() E {
	x := r.expression()
	e := expr.Check(x)
	r.ensure(e == api.OK, e)
	return x
}

// compare compares what the functions do with a text with what is defined, and counts the errors.
func compare(t *testing.T, s string, found map[api.Errno]int) {
	t.Helper()
	var x E
	f, _ := asDefined(s, func(r *reading) {
		x = r.whole()
		r.ensure(r.next().Kind == lexer.End, api.ErrSyntax)
	})
	if f.e != api.OK {
		x = E{}
	}
	y, line, column, e := formula.Parse(s)
	if !expr.Equal(x, y) || (failing{line, column, e}) != f {
		t.Fatalf("Parse(%q) = %v, %d, %d, %d, want %v, %v", s, y, line, column, e, x, f)
	}
	found[e]++
	if e == api.OK {
		compareText(t, s, x)
	}
	compareStreams(t, s)
}

// compareText checks that what was parsed is printed, and parsed again.
func compareText(t *testing.T, s string, x E) {
	t.Helper()
	text, e := formula.Print(x)
	again, _, _, g := formula.Parse(text)
	if e != api.OK || text != textAsDefined(x) || g != api.OK || !expr.Equal(again, x) {
		t.Fatalf("%q is printed as %q, %d, want %q", s, text, e, textAsDefined(x))
	}
}

// compareStreams compares Read, ReadValue and ReadPath with what is defined.
func compareStreams(t *testing.T, s string) {
	t.Helper()
	var x E
	var v V
	var p string
	reads := []func(r *reading){func(r *reading) { x = r.whole() }, func(r *reading) { v = r.value() }, func(r *reading) { p = r.path() }}
	for i, read := range reads {
		x, v, p = E{}, V{}, ""
		f, count := asDefined(s, read)
		if f.e != api.OK {
			x, v, p = E{}, V{}, ""
		}
		stream := lexer.New(s)
		is := false
		switch i {
		case 0:
			is = expr.Equal(formula.Read(stream), x)
		case 1:
			is = value.Equal(formula.ReadValue(stream), v)
		case 2:
			is = formula.ReadPath(stream) == p
		}
		line, column, e := stream.Error()
		if !is || (failing{line, column, e}) != f {
			t.Fatalf("%d: %q: %d, %d, %d, want %v", i, s, line, column, e, f)
		}
		if l, _, _, _ := lexer.Scan(s); f.e == api.OK && stream.Peek() != l[count] {
			t.Fatalf("%d: %q: the next token is %v, want %v", i, s, stream.Peek(), l[count])
		}
	}
}

// bindingAsDefined returns the binding of an expression.
func bindingAsDefined(x E) int {
	switch x.Op {
	case api.OpOr:
		return 1
	case api.OpAnd:
		return 2
	case api.OpNot:
		return 3
	case api.OpEqual, api.OpUnequal, api.OpLess, api.OpAtMost, api.OpGreater, api.OpAtLeast, api.OpIn:
		return 4
	case api.OpElse:
		return 5
	case api.OpAdd, api.OpSubtract, api.OpConcat:
		return 6
	case api.OpMultiply:
		return 7
	case api.OpNegate:
		return 8
	}
	return 9
}

var operators = map[int]string{api.OpOr: "or", api.OpAnd: "and", api.OpEqual: "=", api.OpUnequal: "!=", api.OpLess: "<", api.OpAtMost: "<=", api.OpGreater: ">", api.OpAtLeast: ">=", api.OpElse: "else", api.OpAdd: "+", api.OpSubtract: "-", api.OpConcat: "&", api.OpMultiply: "*"}

// written returns a text of an expression; a function says how many parentheses an argument has at a place where a binding is needed.
func written(x E, parentheses func(x E, needed int, isNumber bool) int) string {
	arg := func(y E, needed int) string {
		isNumber := x.Op == api.OpNegate && y.Op == api.OpValue && (y.Value[0].Kind == api.Int || y.Value[0].Kind == api.Decimal)
		n := parentheses(y, needed, isNumber)
		return strings.Repeat("(", n) + written(y, parentheses) + strings.Repeat(")", n)
	}
	list := func(l []E) string {
		var out []string
		for _, y := range l {
			out = append(out, arg(y, 1))
		}
		return strings.Join(out, ", ")
	}
	b := bindingAsDefined(x)
	switch x.Op {
	case api.OpValue:
		s, _ := literal.Text(x.Value[0])
		return s
	case api.OpPath:
		return x.Text
	case api.OpNot:
		return "not " + arg(x.Args[0], 3)
	case api.OpNegate:
		return "-" + arg(x.Args[0], 9)
	case api.OpIn:
		return arg(x.Args[0], 5) + " in (" + list(x.Args[1:]) + ")"
	case api.OpDivide:
		return "divide(" + list(x.Args) + ", " + strconv.Itoa(x.Int) + ")"
	case api.OpHas:
		return "has(" + x.Text + ")"
	case api.OpSum:
		if x.Int == 0 {
			return "sum(" + x.Text + ")"
		}
		return "sum(" + x.Text + ", " + strconv.Itoa(x.Int) + ")"
	}
	if word, is := operators[x.Op]; is && b == 4 {
		return arg(x.Args[0], 5) + " " + word + " " + arg(x.Args[1], 5)
	} else if is {
		return arg(x.Args[0], b) + " " + word + " " + arg(x.Args[1], b+1)
	}
	words := map[int]string{api.OpLength: "length", api.OpLower: "lower", api.OpUpper: "upper", api.OpText: "text", api.OpNumber: "number", api.OpSlice: "slice", api.OpIf: "if"}
	return words[x.Op] + "(" + list(x.Args) + ")"
}

func textAsDefined(x E) string {
	return written(x, func(y E, needed int, isNumber bool) int {
		if isNumber || bindingAsDefined(y) < needed {
			return 1
		}
		return 0
	})
}

// eachSequence calls a function with the sequences of at most a number of tokens, with blanks between them and without.
func eachSequence(tokens []string, most int, f func(s string)) {
	var further func(spaced, dense string, left int)
	further = func(spaced, dense string, left int) {
		f(spaced)
		f(dense)
		if left == 0 {
			return
		}
		for _, x := range tokens {
			further(spaced+" "+x, dense+x, left-1)
		}
	}
	further("", "", most)
}

func expectAll(t *testing.T, found map[api.Errno]int, least int, l ...api.Errno) {
	t.Helper()
	for _, e := range l {
		if found[e] < least {
			t.Errorf("%d texts with the error %d", found[e], e)
		}
	}
}

func TestP17_1AsDefined(t *testing.T) {
	found := map[api.Errno]int{}
	tokens := []string{"a", "1", "-", "+", "*", "(", ")", "not ", " and ", " or ", "=", "<", " in ", " else ", ",", ".", "[", "]", "?", "length", "sum", "date", "true", "#"}
	eachSequence(tokens, 3, func(s string) { compare(t, s, found) })
	few := []string{"a", "1", "-", "(", ")", " not ", ",", ".", "[", "]"}
	for _, before := range []string{"sum(a", "has(a[*]", "a in (", "if(a, ", "divide(a, b, ", "sum(a[*]", "sum(a[*], ", "has(", "a[", "a.", "a + ", "-(", "a = b ", "date \"1970-01-01\"", "date \"2001-02-29\"", "slice(a, b, c", "(a"} {
		eachSequence(few, 3, func(s string) { compare(t, before+s, found) })
	}
	for _, before := range []string{strings.Repeat("(", 31), strings.Repeat("(", 32), "a " + strings.Repeat("or not ", 31), strings.Repeat("not ", 31), strings.Repeat("- ", 31), strings.Repeat("length(", 31) + "-", strings.Repeat("a in (", 31), strings.Repeat("if(a,", 32)} {
		eachSequence(few, 2, func(s string) { compare(t, before+s, found) })
	}
	expectAll(t, found, 50, api.OK, api.ErrSyntax, api.ErrDepth, api.ErrPath, api.ErrDate, api.ErrByte)
}

var (
	somePaths = []string{"a", "b", "body.lines[2].item", "x", "d", "a?b", "not_a", "a.text", "order[0][255]?c.true"}
	allPaths  = []string{"a[*]", "body.lines[*].price", "a[*]?b[*]"}
)

// someExpr returns a valid expression, whatever the kinds of its parts are.
func someExpr(r *rand.Rand, levels int) E {
	n := 1 + r.Intn(api.NumOps)
	if levels == 1 {
		n = []int{api.OpValue, api.OpValue, api.OpPath, api.OpPath, api.OpHas, api.OpSum}[r.Intn(6)]
	}
	x := E{Op: n}
	count := 2
	switch n {
	case api.OpValue:
		x.Value, count = []V{someScalar(r)}, 0
	case api.OpPath, api.OpHas:
		x.Text, count = somePaths[r.Intn(len(somePaths))], 0
	case api.OpSum:
		x.Text, x.Int, count = allPaths[r.Intn(len(allPaths))], r.Intn(13)*r.Intn(2), 0
	case api.OpDivide:
		x.Int = r.Intn(13)
	case api.OpNot, api.OpNegate, api.OpLength, api.OpLower, api.OpUpper, api.OpText, api.OpNumber:
		count = 1
	case api.OpSlice, api.OpIf:
		count = 3
	case api.OpIn:
		count = 2 + r.Intn(3)
	}
	for range count {
		x.Args = append(x.Args, someExpr(r, 1+r.Intn(levels-1)))
	}
	return x
}

func someScalar(r *rand.Rand) V {
	n := r.Intn(2001) - 1000
	switch r.Intn(7) {
	case 0:
		return value.Bool(n > 0)
	case 1:
		return value.Int(n)
	case 2:
		return value.Decimal(n, r.Intn(4))
	case 3:
		return value.Text([]string{"", "a", "\"\\\n", "é\x00", "//", "not a"}[r.Intn(6)])
	case 4:
		return value.Bytes([]string{"", "\xFF\x00", "a\""}[r.Intn(3)])
	case 5:
		return value.Date(n)
	}
	return value.Time(n)
}

// tokensOf returns the tokens of a text, or none if it has an error.
func tokensOf(s string) []lexer.Token {
	l, _, _, _ := lexer.Scan(s)
	return l
}

func TestP17_5Inverse(t *testing.T) {
	r := rand.New(rand.NewSource(1))
	seen := map[string]E{}
	for range 15000 {
		x := someExpr(r, 1+r.Intn(6))
		if expr.Check(x) != api.OK {
			continue
		}
		kept := expr.Clone(x)
		s, e := formula.Print(x)
		if s != textAsDefined(x) || e != api.OK || !expr.Equal(x, kept) {
			t.Fatalf("Print(%v) = %q, %d, want %q", kept, s, e, textAsDefined(x))
		}
		y, line, column, f := formula.Parse(s)
		if !expr.Equal(x, y) || line != 0 || column != 0 || f != api.OK {
			t.Fatalf("Parse(%q) = %v, %d, want %v", s, y, f, x)
		}
		if other, has := seen[s]; has && !expr.Equal(other, x) {
			t.Fatalf("%v and %v have the same text %q", other, x, s)
		}
		seen[s] = x
	}
}

func TestP17_5Parentheses(t *testing.T) {
	r := rand.New(rand.NewSource(2))
	for range 10000 {
		x := someExpr(r, 1+r.Intn(4))
		s := written(x, func(y E, needed int, isNumber bool) int {
			n := r.Intn(2) * r.Intn(4)
			if isNumber || bindingAsDefined(y) < needed {
				n++
			}
			return n
		})
		n := r.Intn(3)
		s = strings.Repeat("(", n) + s + strings.Repeat(")", n)
		expectParsed(t, s, x)
		// Blanks and comments between tokens do not matter, but where tokens have to be joined.
		var spread strings.Builder
		for _, k := range tokensOf(s) {
			if !k.Joined {
				spread.WriteString([]string{" ", "\n", "\t// not\n "}[r.Intn(3)])
			}
			k.Joined = false
			one, _ := lexer.Print([]lexer.Token{k, {}})
			spread.WriteString(one)
		}
		if spread.Len() < lexer.MaxSource {
			expectParsed(t, spread.String(), x)
		}
	}
}

func TestP17_1Random(t *testing.T) {
	r := rand.New(rand.NewSource(3))
	found := map[api.Errno]int{}
	odd := []string{"", " ", "1", "13", "-", "- ", ".", "..", ",", "=", "(", ")", "[", "]", "[*]", "?", "\"", "x\"0\"", "a", "A", "not ", " in ", " else ", " and ", "date", "date \"2001-02-29\"", "sum(", "2d", "1.5", "#", "//", "\n", "((((", "[300]", " + ", "*", "true", "text"}
	for range 20000 {
		x := someExpr(r, 1+r.Intn(4))
		s := textAsDefined(x)
		for range r.Intn(3) {
			i := r.Intn(len(s) + 1)
			if l := tokensOf(s); len(l) > 1 && r.Intn(3) > 0 && !strings.Contains(s, "\n") {
				i = l[r.Intn(len(l))].Column - 1
			}
			j := min(len(s), i+r.Intn(3))
			s = s[:i] + odd[r.Intn(len(odd))] + s[j:]
		}
		compare(t, s, found)
	}
	expectAll(t, found, 10, api.OK, api.ErrSyntax, api.ErrByte, api.ErrFormat, api.ErrTruncated, api.ErrPath, api.ErrRange, api.ErrDate)
}

// long returns an expression whose text has a number of bytes, from 65000 on.
func long(size int) E {
	x := op(api.OpIn, a)
	for range 64 {
		x.Args = append(x.Args, lit(value.Text(strings.Repeat("x", 1000))))
	}
	s, _ := formula.Print(x)
	for i := 1; i <= 64; i++ {
		more := min(24, size-len(s)-24*(i-1))
		x.Args[i].Value[0].Text += strings.Repeat("x", max(0, more))
	}
	return x
}

func TestP17_5Limits(t *testing.T) {
	for _, size := range []int{65000, 65536, 65537} {
		x := long(size)
		s, e := formula.Print(x)
		if e != api.OK || len(s) != size {
			t.Fatal(len(s), e)
		}
		if size <= lexer.MaxSource {
			expectParsed(t, s, x)
		} else {
			expectError(t, s, 1, api.ErrLong)
		}
	}
	big := E{Op: api.OpIn, Args: slices.Repeat([]E{lit(value.Text(strings.Repeat("\x00", 1024)))}, 255)}
	s, e := formula.Print(big)
	if e != api.OK || len(s) < 1<<20 {
		t.Error(len(s), e)
	}
	expectError(t, s, 1, api.ErrLong)
}

func TestP17_5NewMemory(t *testing.T) {
	s := "if(a, b in (1, 2), \"x\")"
	x, _, _, _ := formula.Parse(s)
	kept := expr.Clone(x)
	x.Args[1].Args[2].Value[0].Int = 7
	x.Args[0] = E{}
	if y, _, _, _ := formula.Parse(s); !expr.Equal(y, kept) {
		t.Error("two results share memory")
	}
}
