package formula_test

import (
	"slices"
	"strings"
	"testing"

	"manifold/api"
	"manifold/expr"
	"manifold/formula"
	"manifold/lexer"
	"manifold/value"
)

type (
	V = api.Value
	E = api.Expr
)

func op(n int, l ...E) E         { return E{Op: n, Args: l} }
func at(s string) E              { return E{Op: api.OpPath, Text: s} }
func has(s string) E             { return E{Op: api.OpHas, Text: s} }
func lit(v V) E                  { return E{Op: api.OpValue, Value: []V{v}} }
func num(n int) E                { return lit(value.Int(n)) }
func sum(s string, scale int) E  { return E{Op: api.OpSum, Text: s, Int: scale} }
func divide(a, b E, scale int) E { return E{Op: api.OpDivide, Int: scale, Args: []E{a, b}} }
func not(e E) E                  { return op(api.OpNot, e) }
func negate(e E) E               { return op(api.OpNegate, e) }

var a, b, c = at("a"), at("b"), at("c")

// expectParsed checks that a text is parsed as an expression.
func expectParsed(t *testing.T, s string, want E) {
	t.Helper()
	x, line, column, e := formula.Parse(s)
	if !expr.Equal(x, want) || line != 0 || column != 0 || e != api.OK {
		t.Errorf("Parse(%q) = %v, %d, %d, %d, want %v", s, x, line, column, e, want)
	}
}

// expectError checks that a text in one line has an error at a column.
func expectError(t *testing.T, s string, column int, e api.Errno) {
	t.Helper()
	if x, line, n, f := formula.Parse(s); !expr.Equal(x, E{}) || line != 1 || n != column || f != e {
		t.Errorf("Parse(%.80q) = %v, %d, %d, %d, want %d, %d", s, x, line, n, f, column, e)
	}
}

// canonical has expressions by their canonical texts.
func canonical() map[string]E {
	five := num(5)
	return map[string]E{
		"not a = 1 or b in (2, 3) and has(c.d)": op(api.OpOr, not(op(api.OpEqual, a, num(1))), op(api.OpAnd, op(api.OpIn, b, num(2), num(3)), has("c.d"))),
		"(a + b) * -c":                          op(api.OpMultiply, op(api.OpAdd, a, b), negate(c)), "a * b + c": op(api.OpAdd, op(api.OpMultiply, a, b), c), "a - (b - c)": op(api.OpSubtract, a, op(api.OpSubtract, b, c)), "a - b - c": op(api.OpSubtract, op(api.OpSubtract, a, b), c), "-(5)": negate(five), "-5": num(-5), "-(-5)": negate(num(-5)), "-a": negate(a), "-(-a)": negate(negate(a)), "a - -5": op(api.OpSubtract, a, num(-5)), "a - -b": op(api.OpSubtract, a, negate(b)), "-(a + b)": negate(op(api.OpAdd, a, b)), "-(2.5)": negate(lit(value.Decimal(25, 1))), "-\"a\"": negate(lit(value.Text("a"))), "-true": negate(lit(value.Bool(true))), "-length(a)": negate(op(api.OpLength, a)), "-(a * b)": negate(op(api.OpMultiply, a, b)), "-a * b": op(api.OpMultiply, negate(a), b), "-5 * a": op(api.OpMultiply, num(-5), a), "a * -5": op(api.OpMultiply, a, num(-5)),
		"body.lines[2].item else \"none\"": op(api.OpElse, at("body.lines[2].item"), lit(value.Text("none"))), "sum(body.lines[*].price, 2)": sum("body.lines[*].price", 2), "sum(a[*])": sum("a[*]", 0), "sum(a[*], 12)": sum("a[*]", 12), "divide(a, b, 0)": divide(a, b, 0), "divide(a, b or c, 12)": divide(a, op(api.OpOr, b, c), 12), "has(a?b[0])": has("a?b[0]"),
		"a or b or c": op(api.OpOr, op(api.OpOr, a, b), c), "a or (b or c)": op(api.OpOr, a, op(api.OpOr, b, c)), "a and b and c": op(api.OpAnd, op(api.OpAnd, a, b), c), "a and (b and c)": op(api.OpAnd, a, op(api.OpAnd, b, c)), "a or b and c": op(api.OpOr, a, op(api.OpAnd, b, c)), "(a or b) and c": op(api.OpAnd, op(api.OpOr, a, b), c), "not a and b": op(api.OpAnd, not(a), b), "not (a and b)": not(op(api.OpAnd, a, b)), "not not a": not(not(a)), "a and not b": op(api.OpAnd, a, not(b)), "not (a or b)": not(op(api.OpOr, a, b)), "not a in (b)": not(op(api.OpIn, a, b)),
		"a = b": op(api.OpEqual, a, b), "a != b": op(api.OpUnequal, a, b), "a < b": op(api.OpLess, a, b), "a <= b": op(api.OpAtMost, a, b), "a > b": op(api.OpGreater, a, b), "a >= b": op(api.OpAtLeast, a, b), "(a = b) = c": op(api.OpEqual, op(api.OpEqual, a, b), c), "a = (b = c)": op(api.OpEqual, a, op(api.OpEqual, b, c)), "(not a) = b": op(api.OpEqual, not(a), b), "a = (not b)": op(api.OpEqual, a, not(b)), "a else b < c else a": op(api.OpLess, op(api.OpElse, a, b), op(api.OpElse, c, a)), "(a < b) else c": op(api.OpElse, op(api.OpLess, a, b), c), "a else (b < c)": op(api.OpElse, a, op(api.OpLess, b, c)), "(a in (b)) in (c)": op(api.OpIn, op(api.OpIn, a, b), c), "(a = b) in (b = c, c)": op(api.OpIn, op(api.OpEqual, a, b), op(api.OpEqual, b, c), c), "a in (b in (c), not a, a or b)": op(api.OpIn, a, op(api.OpIn, b, c), not(a), op(api.OpOr, a, b)), "(not a) in (b)": op(api.OpIn, not(a), b), "a else b in (c)": op(api.OpIn, op(api.OpElse, a, b), c), "(a in (b)) = c": op(api.OpEqual, op(api.OpIn, a, b), c), "a + (b in (c))": op(api.OpAdd, a, op(api.OpIn, b, c)),
		"a else b else c": op(api.OpElse, op(api.OpElse, a, b), c), "a else (b else c)": op(api.OpElse, a, op(api.OpElse, b, c)), "a + b else c & a": op(api.OpElse, op(api.OpAdd, a, b), op(api.OpConcat, c, a)), "(a else b) + c": op(api.OpAdd, op(api.OpElse, a, b), c), "a + (b else c)": op(api.OpAdd, a, op(api.OpElse, b, c)), "a + b - c & a": op(api.OpConcat, op(api.OpSubtract, op(api.OpAdd, a, b), c), a), "a + (b & c)": op(api.OpAdd, a, op(api.OpConcat, b, c)), "a & b * c": op(api.OpConcat, a, op(api.OpMultiply, b, c)), "(a & b) * c": op(api.OpMultiply, op(api.OpConcat, a, b), c), "a * b * c": op(api.OpMultiply, op(api.OpMultiply, a, b), c), "a * (b * c)": op(api.OpMultiply, a, op(api.OpMultiply, b, c)), "a * (not b)": op(api.OpMultiply, a, not(b)), "-(not a)": negate(not(a)), "-(a else b)": negate(op(api.OpElse, a, b)),
		"length(a or b)": op(api.OpLength, op(api.OpOr, a, b)), "lower(a)": op(api.OpLower, a), "upper(a)": op(api.OpUpper, a), "text(a)": op(api.OpText, a), "number(a = b)": op(api.OpNumber, op(api.OpEqual, a, b)), "slice(a, b or c, -1)": op(api.OpSlice, a, op(api.OpOr, b, c), num(-1)), "if(a, b, c)": op(api.OpIf, a, b, c), "if(not a, if(a, b, c), c else a)": op(api.OpIf, not(a), op(api.OpIf, a, b, c), op(api.OpElse, c, a)),
		"true": lit(value.Bool(true)), "false": lit(value.Bool(false)), "0": num(0), "999999999999999": num(api.MaxNumber), "-999999999999999": num(-api.MaxNumber), "7d": lit(value.Decimal(7, 0)), "-7d": lit(value.Decimal(-7, 0)), "0d": lit(value.Decimal(0, 0)), "1.50": lit(value.Decimal(150, 2)), "-0.005": lit(value.Decimal(-5, 3)), `""`: lit(value.Text("")), `"a\"\n\u{7f}é"`: lit(value.Text("a\"\n\x7Fé")), `x""`: lit(value.Bytes("")), `x"00ff"`: lit(value.Bytes("\x00\xFF")), `date "2000-02-29"`: lit(value.Date(11016)), `time "1970-01-01T00:00:00.001Z"`: lit(value.Time(1)), `date "1970-01-01" < date "1970-01-02"`: op(api.OpLess, lit(value.Date(0)), lit(value.Date(1))),
		"a.b[0][255]?c.not.true.in": at("a.b[0][255]?c.not.true.in"), "x": at("x"), "d": at("d"), "body": at("body"), "texts.text": at("texts.text"), "a?if": at("a?if"), "not_a": at("not_a"), "a" + strings.Repeat("[1]", 15): at("a" + strings.Repeat("[1]", 15)),
	}
}

func TestP17_4Print(t *testing.T) {
	for want, x := range canonical() {
		kept := expr.Clone(x)
		if s, e := formula.Print(x); s != want || e != api.OK {
			t.Errorf("Print(%v) = %q, %d, want %q", x, s, e, want)
		}
		expectParsed(t, want, x)
		if !expr.Equal(x, kept) {
			t.Errorf("Print has modified %v", kept)
		}
	}
}

func TestP17_4PrintErrors(t *testing.T) {
	for _, c := range []struct {
		x E
		e api.Errno
	}{
		{E{}, api.ErrKind}, {op(api.OpNot), api.ErrShort}, {not(at("a..b")), api.ErrSyntax}, {at("a[*]"), api.ErrPath}, {op(api.OpAnd, at("not"), op(0)), api.ErrKind}, {op(api.OpAnd, at("not"), at("A")), api.ErrSyntax}, {lit(value.List()), api.ErrType}, {lit(value.Int(api.MaxNumber + 1)), api.ErrRange},
		{at("text.a"), api.ErrName}, {has("in"), api.ErrName}, {sum("date[*]", 1), api.ErrName}, {op(api.OpOr, a, not(at("true?a"))), api.ErrName}, {at("if[0]"), api.ErrName}, {op(api.OpIn, a, a, has("and.b")), api.ErrName},
	} {
		if s, e := formula.Print(c.x); s != "" || e != c.e {
			t.Errorf("Print(%v) = %q, %d, want %d", c.x, s, e, c.e)
		}
	}
}

func TestP17_4Reserved(t *testing.T) {
	want := strings.Fields("and date divide else false has if in length lower not number or slice sum text time true upper")
	l := formula.Reserved()
	if !slices.Equal(l, want) || !slices.IsSorted(l) {
		t.Error(l)
	}
	l[0] = "x"
	if !slices.Equal(formula.Reserved(), want) {
		t.Error("two results share memory")
	}
	for _, w := range want {
		for _, p := range []string{w, w + ".a", w + "[0]", w + "?a"} {
			if s, e := formula.Print(at(p)); s != "" || e != api.ErrName {
				t.Errorf("Print of the path %s = %q, %d", p, s, e)
			}
			if s := formula.ReadPath(lexer.New(p)); s != "" {
				t.Errorf("ReadPath(%s) = %s", p, s)
			}
		}
		for _, p := range []string{w + "s", "a." + w, "a?" + w, w + "_", w[:len(w)-1] + "0"} {
			expectParsed(t, p, at(p))
		}
	}
}

func TestP17_1Read(t *testing.T) {
	for s, want := range map[string]E{
		"a+b": op(api.OpAdd, a, b), "a -5": op(api.OpSubtract, a, num(5)), "a-5": op(api.OpSubtract, a, num(5)), "a--5": op(api.OpSubtract, a, num(-5)), "a - - 5": op(api.OpSubtract, a, negate(num(5))), "- 5": negate(num(5)), "--5": negate(num(-5)), "- -5": negate(num(-5)), "---5": negate(negate(num(-5))), "-(5)": negate(num(5)), "-a": negate(a), "- a": negate(a), "--a": negate(negate(a)), "-0": num(0), "-0.0": lit(value.Decimal(0, 1)), "-5d": lit(value.Decimal(-5, 0)), "5-5": op(api.OpSubtract, num(5), num(5)), "a*-5*-b": op(api.OpMultiply, op(api.OpMultiply, a, num(-5)), negate(b)), "a<-5": op(api.OpLess, a, num(-5)), "-\n5": negate(num(5)), "-//\n5": negate(num(5)),
		"((a))": a, "(a)+(b)": op(api.OpAdd, a, b), "not(a)": not(a), "not(a)and b": op(api.OpAnd, not(a), b), "a in(b)": op(api.OpIn, a, b), "length ( a )": op(api.OpLength, a), "a // x\n + // y\nb": op(api.OpAdd, a, b), "sum(a[*], 2d)": sum("a[*]", 2), "sum(a[*], 0)": sum("a[*]", 0), "divide(1,2,12d)": divide(num(1), num(2), 12), "date\"1970-01-01\"": lit(value.Date(0)), "date // x\n \"1970-01-02\"": lit(value.Date(1)), `"\u{41}"`: lit(value.Text("A")), `x"AB"`: lit(value.Bytes("\xAB")), "(1)": num(1), "a else b or c": op(api.OpOr, op(api.OpElse, a, b), c), "not a else b": not(op(api.OpElse, a, b)), "not - a": not(negate(a)), "2*-3": op(api.OpMultiply, num(2), num(-3)), "a\n=\nb": op(api.OpEqual, a, b), "(a = b) = (b = c)": op(api.OpEqual, op(api.OpEqual, a, b), op(api.OpEqual, b, c)), "if(a,(b),c)": op(api.OpIf, a, b, c), "true and true": op(api.OpAnd, lit(value.Bool(true)), lit(value.Bool(true))), "a[1]": at("a[1]"),
	} {
		expectParsed(t, s, want)
	}
	// As many tokens as possible are read, and no more.
	for s, behind := range map[string]string{"a.b + 1 ; rest": ";", "a b": "b", "a = b = c": "=", "a .b": ".", "a)": ")", "(a))": ")", "a, b": ",", "a in (b) in (c)": "in", "a = b in (c)": "in", "a in (b) = c": "=", "1 2": "2", "a \"x\"": "", "a not b": "not", "a -> b": "->", "true.a": ".", "a..b": "..", "a < b else c > a": ">", "-a(b)": "(", "a(b)": "(", "not a not b": "not", "a:b": ":"} {
		x := lexer.New(s)
		if formula.Read(x).Op == 0 || x.Peek().Text != behind {
			t.Errorf("Read(%q): behind it is %v", s, x.Peek())
		}
		if _, _, e := x.Error(); e != api.OK {
			t.Errorf("Read(%q): %d", s, e)
		}
	}
}

func TestP17_1SyntaxErrors(t *testing.T) {
	for s, column := range map[string]int{
		"": 1, " ": 2, "a b": 3, "a = b = c": 7, "(a": 3, "(a]": 3, "a)": 2, "()": 2, "a .b": 3, "a.": 3, "a. b": 4, "a.1": 3, "a.[": 3, "a[1": 4, "a[1 ]": 5, "a[ 1]": 4, "a[": 3, "a[b]": 3, "a[-1]": 3, "a[]": 3, "a[*": 4, "a[* ]": 5, "a [1]": 3, "a?": 3, "a? b": 4, "a ?b": 3, "a?1": 3, "a[1]b": 5, "a[+]": 3, "a[.]": 3,
		"a +": 4, "a + * b": 5, "+ a": 1, "* a": 1, "a - ": 5, "-": 2, "- ": 3, "a and": 6, "a or or b": 6, "and a": 1, "or": 1, "else a": 1, "in (a)": 1, "not": 4, "a + not b": 5, "- not a": 3, "a = not b": 5, "a else not b": 8, "a in b": 6, "a in ()": 7, "a in (b": 8, "a in (b,)": 9, "a in (,b)": 7, "a in": 5, "in": 1,
		"length": 7, "length a": 8, "length()": 8, "length(a": 9, "length(a, b)": 9, "lower.a": 6, "text.a": 5, "slice(a, b)": 11, "slice(a, b, c, d)": 14, "if(a, b)": 8, "if(a)": 5, "if a": 4, "divide(a, b)": 12, "divide(a, b, c)": 14, "divide(a, b, )": 14, "divide(a, b, -1)": 14, "divide(a, b, \"1\")": 14, "divide(a)": 9, "has()": 5, "has(1)": 5, "has((a))": 5, "has(a + b)": 7, "has(not)": 5, "has(text.a)": 5, "sum(a[*],)": 10, "sum(a[*], b)": 11, "sum(a[*], -1)": 11, "sum(1)": 5, "sum(a[*] 2)": 10, "sum()": 5, "sum(a[*], 2, 3)": 12, "sum(sum)": 5,
		"date": 5, "date a": 6, "date.a": 5, "date 5": 6, "time x\"\"": 6, "date -\"\"": 6, "true.a": 5, "a -> b": 3, "{a}": 1, "a; b": 2, "a ? b": 3, "a | b": 3, "@a": 1, "- -": 4, "\"a\" \"b\"": 5, "a in (b) in (c)": 10, "a < b < c": 7, "a = b in (c)": 7, "number(a,)": 9, "upper)": 6,
	} {
		expectError(t, s, column, api.ErrSyntax)
	}
	if _, line, column, e := formula.Parse("a\n+ // b\n  *"); line != 3 || column != 3 || e != api.ErrSyntax {
		t.Error(line, column, e)
	}
}

func TestP17_1OtherErrors(t *testing.T) {
	many := strings.Repeat("a + ", 300)
	for _, c := range []struct {
		s      string
		column int
		e      api.Errno
	}{
		{"a & #", 5, api.ErrByte}, {"(a #", 4, api.ErrByte}, {") 00", 3, api.ErrFormat}, {"\"", 2, api.ErrTruncated}, {"1000000000000000", 1, api.ErrSyntax}, {strings.Repeat(" ", 65537), 1, api.ErrLong},
		{"sum(a[*], 13)", 11, api.ErrRange}, {"sum(a[*], 1.0)", 11, api.ErrRange}, {"divide(a, b, 13)", 14, api.ErrRange}, {"divide(a, b, 0.5)", 14, api.ErrRange}, {"divide(a, b, 13d) #", 19, api.ErrByte}, {"divide(a, b, 13d", 14, api.ErrRange}, {"sum(a, 13)", 8, api.ErrRange}, {"sum(a[*], 999999999999999)", 11, api.ErrRange},
		{"date \"2001-02-29\"", 18, api.ErrDate}, {"date \"x\" + 1", 10, api.ErrSyntax}, {"time \"1970-01-01\"", 18, api.ErrSyntax}, {"time \"1970-01-01T24:00:00Z\")", 28, api.ErrDate}, {"(date \"\"", 9, api.ErrSyntax}, {"date \"2001-02-29\" +", 19, api.ErrDate},
		{"a[300]", 7, api.ErrSyntax}, {"a[300] + ", 8, api.ErrSyntax}, {"A.b", 4, api.ErrSyntax}, {"a.B", 4, api.ErrSyntax}, {"a[1.5]", 7, api.ErrSyntax}, {"a[2d]", 6, api.ErrSyntax}, {"(Body)", 6, api.ErrSyntax}, {strings.Repeat("a.", 16) + "a + b", 35, api.ErrLimit}, {"a" + strings.Repeat("[255]", 40), 202, api.ErrLong}, {"sum(A[*], 13)", 9, api.ErrSyntax}, {"has(a[300]", 11, api.ErrSyntax}, {"a" + strings.Repeat("a", 32), 34, api.ErrSyntax},
		{"sum(a)", 7, api.ErrPath}, {"has(a[*])", 10, api.ErrPath}, {"a[*]", 5, api.ErrPath}, {"a[*] + b", 9, api.ErrPath}, {"sum(a) ;", 8, api.ErrPath}, {"sum(a) b", 8, api.ErrPath}, {"a[*] + not b", 8, api.ErrSyntax}, {many + "a", 1202, api.ErrDepth}, {many + "a )", 1203, api.ErrDepth}, {many, 1201, api.ErrSyntax}, {"a in (" + strings.Repeat("b, ", 255) + "b)", 774, api.ErrLimit}, {"a or " + strings.Repeat("not ", 8) + "b ;", 40, api.ErrDepth}, {"sum(a) + " + strings.Repeat("not ", 8) + "b", 10, api.ErrSyntax},
	} {
		expectError(t, c.s, c.column, c.e)
	}
	expectParsed(t, "a in ("+strings.Repeat("b, ", 253)+"b)", E{Op: api.OpIn, Args: append([]E{a}, slices.Repeat([]E{b}, 254)...)})
}

// TestP17_1Nesting opens as much as is permitted, and then one thing more.
func TestP17_1Nesting(t *testing.T) {
	low := map[string]int{"not a": 0, "a in (b)": 5, "not -5": 0}
	high := map[string]int{"(a)": 0, "-a": 0, "- 5": 0, "-(5)": 0, "length(a)": 6, "if(a, b, c)": 2, "divide(a, b, 2)": 6, "has(a)": 3, "sum(a[*])": 3, "-\"a\"": 0, "- -5": 0, "number (a)": 7}
	for first, count := range map[string]int{"(": 1, "not ": 1, "- ": 1, "-": 1, "not (": 2, "length(": 1, "if(a, ": 1, "if(a, b, ": 1, "a in (": 1, "a in (b, ": 1, "a or (": 1, "a = (": 1, "slice(a, b, ": 1, "divide(a, ": 1, "-(a * ": 2, "not - (a or ": 3, "not - -(": 4} {
		text := strings.Repeat(first, 32/count) + strings.Repeat("(", 32%count)
		for last, at := range high {
			expectError(t, text+last, len(text)+at+1, api.ErrDepth)
		}
		for last, at := range low {
			if strings.HasSuffix(text, "(") || strings.HasSuffix(text, ", ") {
				expectError(t, text+last, len(text)+at+1, api.ErrDepth)
			}
		}
		if _, _, _, e := formula.Parse(text + "a"); strings.Contains(text, "(") && e != api.ErrSyntax {
			t.Errorf("Parse(%q): %d", text+"a", e)
		}
	}
	deep := strings.Repeat("(", 32)
	shut := strings.Repeat(")", 32)
	expectParsed(t, deep+"a"+shut, a)
	expectParsed(t, deep+"-5"+shut, num(-5))
	expectParsed(t, deep+"a"+shut+" + "+deep+"b"+shut, op(api.OpAdd, a, b))
	expectParsed(t, "not "+deep[1:]+"a"+shut[1:]+" and "+deep+"b"+shut, op(api.OpAnd, not(a), b))
	expectParsed(t, "- "+deep[1:]+"a"+shut[1:]+" * "+deep+"b"+shut, op(api.OpMultiply, negate(a), b))
	expectParsed(t, "length("+deep[1:]+"a"+shut+" = "+deep+"b"+shut, op(api.OpEqual, op(api.OpLength, a), b))
	expectParsed(t, "a in ("+deep[1:]+"a"+shut+" and "+deep+"b"+shut, op(api.OpAnd, op(api.OpIn, a, a), b))
	expectParsed(t, "has(a) or "+deep+"b"+shut, op(api.OpOr, has("a"), b))
	expectParsed(t, "sum(a[*]) + divide(1, 2, 3) - "+deep+"b"+shut, op(api.OpSubtract, op(api.OpAdd, sum("a[*]", 0), divide(num(1), num(2), 3)), b))
	expectError(t, deep+"(", 33, api.ErrDepth)
	expectError(t, deep+"length", 39, api.ErrSyntax)
	expectError(t, deep+"length a", 40, api.ErrSyntax)
	expectError(t, deep+"a in b", 38, api.ErrSyntax)
	expectError(t, deep+"-", 33, api.ErrDepth)
	expectError(t, deep+"and", 33, api.ErrSyntax)
	expectError(t, strings.Repeat("(", 1000), 33, api.ErrDepth)
	expectError(t, strings.Repeat("not ", 16000), 129, api.ErrDepth)
	expectError(t, strings.Repeat("- ", 16000), 65, api.ErrDepth)
	// A double hyphen before a number is one operation.
	expectError(t, strings.Repeat("-", 33)+"5", 35, api.ErrDepth)
	expectError(t, strings.Repeat("-", 34)+"5", 33, api.ErrDepth)
}

func TestP17_2ReadValue(t *testing.T) {
	for s, want := range map[string]V{"true": value.Bool(true), "false)": value.Bool(false), "5": value.Int(5), "-5": value.Int(-5), "5d": value.Decimal(5, 0), "-1.50": value.Decimal(-150, 2), `"a"`: value.Text("a"), `x"00"`: value.Bytes("\x00"), `date "1970-01-02"`: value.Date(1), `time "1970-01-01T00:00:01Z"`: value.Time(1000), "1 + 2": value.Int(1), "-1-2": value.Int(-1), "\"a\" \"b\"": value.Text("a"), "0.0": value.Decimal(0, 1)} {
		x := lexer.New(s)
		if v := formula.ReadValue(x); !value.Equal(v, want) {
			t.Errorf("ReadValue(%q) = %v", s, v)
		}
		if _, _, e := x.Error(); e != api.OK {
			t.Errorf("ReadValue(%q): %d", s, e)
		}
	}
	for s, c := range map[string]struct {
		column int
		e      api.Errno
	}{"": {1, api.ErrSyntax}, "a": {1, api.ErrSyntax}, "- 5": {1, api.ErrSyntax}, "-a": {1, api.ErrSyntax}, "--5": {1, api.ErrSyntax}, "+5": {1, api.ErrSyntax}, "(5)": {1, api.ErrSyntax}, "date": {5, api.ErrSyntax}, "time 5": {6, api.ErrSyntax}, "date \"\"": {8, api.ErrSyntax}, "date \"2001-02-29\" x": {19, api.ErrDate}, "time \"1970-01-01T00:60:00Z\"": {28, api.ErrDate}, "null": {1, api.ErrSyntax}, "not true": {1, api.ErrSyntax}, "#": {1, api.ErrByte}, "- ": {1, api.ErrSyntax}, "->5": {1, api.ErrSyntax}} {
		x := lexer.New(s)
		if v := formula.ReadValue(x); !value.IsNull(v) {
			t.Errorf("ReadValue(%q) = %v", s, v)
		}
		if line, column, e := x.Error(); line != 1 || column != c.column || e != c.e {
			t.Errorf("ReadValue(%q): %d, %d, want %d, %d", s, column, e, c.column, c.e)
		}
	}
	x := lexer.New("1 2 -3 - 4")
	if formula.ReadValue(x).Int != 1 || formula.ReadValue(x).Int != 2 || formula.ReadValue(x).Int != -3 || !x.Is("-") || !value.IsNull(formula.ReadValue(x)) {
		t.Error("values one behind the other")
	}
}

func TestP17_2ReadPath(t *testing.T) {
	for s, want := range map[string][2]string{"a": {"a", ""}, "a.b[2]?c[*] rest": {"a.b[2]?c[*]", "rest"}, "a .b": {"a", "."}, "a + b": {"a", "+"}, "a..b": {"a", ".."}, "a.not.in": {"a.not.in", ""}, "a(b": {"a", "("}, "a[0][1]": {"a[0][1]", ""}, "x -1": {"x", "-"}, "a?b?c": {"a?b?c", ""}, "a b": {"a", "b"}, "a [0]": {"a", "["}, "a ?b": {"a", "?"}} {
		x := lexer.New(s)
		if got := formula.ReadPath(x); got != want[0] || x.Peek().Text != want[1] {
			t.Errorf("ReadPath(%q) = %q, and then %v", s, got, x.Peek())
		}
		if _, _, e := x.Error(); e != api.OK {
			t.Errorf("ReadPath(%q): %d", s, e)
		}
	}
	for s, c := range map[string]struct {
		column int
		e      api.Errno
	}{"": {1, api.ErrSyntax}, "1": {1, api.ErrSyntax}, "\"a\"": {1, api.ErrSyntax}, ".a": {1, api.ErrSyntax}, "in": {1, api.ErrSyntax}, "date.a": {1, api.ErrSyntax}, "(a)": {1, api.ErrSyntax}, "a.": {3, api.ErrSyntax}, "a. b": {4, api.ErrSyntax}, "a[ 0]": {4, api.ErrSyntax}, "a[0 ]": {5, api.ErrSyntax}, "a[0": {4, api.ErrSyntax}, "a[-1]": {3, api.ErrSyntax}, "a[256]": {7, api.ErrSyntax}, "A": {2, api.ErrSyntax}, "a[1d] ;": {7, api.ErrSyntax}, "a.1": {3, api.ErrSyntax}, "a?\"b\"": {3, api.ErrSyntax}, strings.Repeat("a.", 16) + "a": {34, api.ErrLimit}, "a[*]" + strings.Repeat("[255]", 40) + ";": {205, api.ErrLong}, "#": {1, api.ErrByte}} {
		x := lexer.New(s)
		got := formula.ReadPath(x)
		line, column, e := x.Error()
		if got != "" || line != 1 || column != c.column || e != c.e {
			t.Errorf("ReadPath(%q) = %q, %d, %d, want %d, %d", s, got, column, e, c.column, c.e)
		}
	}
}

func TestP17_2NoStream(t *testing.T) {
	if formula.Read(nil).Op != 0 || !value.IsNull(formula.ReadValue(nil)) || formula.ReadPath(nil) != "" {
		t.Error("a nil stream")
	}
	if x := new(lexer.Stream); formula.Read(x).Op != 0 || !value.IsNull(formula.ReadValue(x)) || formula.ReadPath(x) != "" {
		t.Error("a stream without tokens")
	}
	failed := func() *lexer.Stream {
		x := lexer.New("a 5 -5")
		x.Fail(api.ErrName)
		return x
	}
	for _, x := range []*lexer.Stream{failed(), lexer.New("a #")} {
		line, column, e := x.Error()
		if formula.Read(x).Op != 0 || !value.IsNull(formula.ReadValue(x)) || formula.ReadPath(x) != "" {
			t.Error("a stream with an error")
		}
		if l, c, f := x.Error(); l != line || c != column || f != e || e == api.OK {
			t.Error(l, c, f)
		}
	}
}
