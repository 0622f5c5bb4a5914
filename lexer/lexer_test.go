package lexer_test

import (
	"math"
	"slices"
	"strings"
	"testing"

	"manifold/api"
	"manifold/lexer"
)

type (
	token = lexer.Token
	N     = api.Number
)

const (
	end    = lexer.End
	word   = lexer.Word
	number = lexer.Number
	str    = lexer.String
	bytes  = lexer.Bytes
	symbol = lexer.Symbol
)

// scanned returns the tokens of a text that has no error.
func scanned(t *testing.T, s string) []token {
	t.Helper()
	l, line, column, e := lexer.Scan(s)
	if line != 0 || column != 0 || e != api.OK || len(l) == 0 || l[len(l)-1].Kind != end {
		t.Fatalf("Scan(%.60q) = %.60v, %d, %d, %d", s, l, line, column, e)
	}
	return l
}

// expectError checks that a text has an error at a place.
func expectError(t *testing.T, s string, line, column int, e api.Errno) {
	t.Helper()
	if l, n, c, f := lexer.Scan(s); l != nil || n != line || c != column || f != e {
		t.Errorf("Scan(%.60q) = %.60v, %d, %d, %d, want %d, %d, %d", s, l, n, c, f, line, column, e)
	}
}

func TestP15_1Tokens(t *testing.T) {
	for _, c := range []struct {
		s string
		l []token
	}{
		{"", []token{{Line: 1, Column: 1}}}, {" \t\n  ", []token{{Line: 2, Column: 3}}}, {"// a", []token{{Line: 1, Column: 5}}}, {"//\n", []token{{Line: 2, Column: 1}}}, {"//\n//\n", []token{{Line: 3, Column: 1}}},
		{"a", []token{{Kind: word, Line: 1, Column: 1, Text: "a"}, {Line: 1, Column: 2}}},
		{"\n\n  Zz_09\t\n", []token{{Kind: word, Line: 3, Column: 3, Text: "Zz_09"}, {Line: 4, Column: 1}}},
		{"1.50x", []token{{Kind: number, Line: 1, Column: 1, Text: "1.50", Number: N{Int: 150, Scale: 2}}, {Kind: word, Line: 1, Column: 5, Text: "x", Joined: true}, {Line: 1, Column: 6}}},
		{"\"é\" x\"4A\"", []token{{Kind: str, Line: 1, Column: 1, Value: "é"}, {Kind: bytes, Line: 1, Column: 6, Value: "J"}, {Line: 1, Column: 11}}},
		{"a//b\nc", []token{{Kind: word, Line: 1, Column: 1, Text: "a"}, {Kind: word, Line: 2, Column: 1, Text: "c"}, {Line: 2, Column: 2}}},
		{"a\n->b", []token{{Kind: word, Line: 1, Column: 1, Text: "a"}, {Kind: symbol, Line: 2, Column: 1, Text: "->"}, {Kind: word, Line: 2, Column: 3, Text: "b", Joined: true}, {Line: 2, Column: 4}}},
		{"\"\"\"\"", []token{{Kind: str, Line: 1, Column: 1}, {Kind: str, Line: 1, Column: 3, Joined: true}, {Line: 1, Column: 5}}},
		{"a // \x00\xFF\r\" /", []token{{Kind: word, Line: 1, Column: 1, Text: "a"}, {Line: 1, Column: 12}}},
	} {
		if l := scanned(t, c.s); !slices.Equal(l, c.l) {
			t.Errorf("Scan(%q) = %v, want %v", c.s, l, c.l)
		}
	}
}

// described returns the tokens of a text but End as texts, with a + before those that are joined.
func described(l []token) string {
	var out []string
	for _, x := range l[:len(l)-1] {
		s := [...]string{word: "w", number: "n", str: "s", bytes: "b", symbol: ""}[x.Kind] + x.Text + x.Value
		if x.Joined {
			s = "+" + s
		}
		out = append(out, s)
	}
	return strings.Join(out, " ")
}

func TestP15_1LongestTokens(t *testing.T) {
	for s, want := range map[string]string{
		"a.b[2] >= 1.50 // limit": "wa +. +wb +[ +n2 +] >= n1.50", "1.x": "n1 +. +wx", "0..9": "n0 +.. +n9", "12d": "n12d", "12days": "n12 +wdays", "1.5d": "n1.5 +wd", "12d_": "n12 +wd_", "12d5": "n12 +wd5", "12dd": "n12 +wdd", "12d.5": "n12d +. +n5", "12d-": "n12d +-", "12d\"a\"": "n12d +sa", "0d": "n0d", "0.5": "n0.5", "0.0": "n0.0", "1.": "n1 +.", ".5": ". +n5", "1...5": "n1 +.. +. +n5", "1.5.2": "n1.5 +. +n2", "1.05": "n1.05", "12 d": "n12 wd",
		"x\"00\"": "b\x00", "x \"00\"": "wx s00", "ax\"00\"": "wax +s00", "X\"00\"": "wX +s00", "1x\"00\"": "n1 +b\x00", "xx\"\"": "wxx +s", "x": "wx", "x1\"\"": "wx1 +s", "\"x\"\"00\"": "sx +s00",
		"->->": "-> +->", "--> ": "- +->", "<==": "<= +=", "<-": "< +-", "!==": "!= +=", ">=>": ">= +>", "=>": "= +>", "...": ".. +.", "....": ".. +..", "(){}[]": "( +) +{ +} +[ +]", "<>=:;,.?+-*&@|": "< +>= +: +; +, +. +? ++ +- +* +& +@ +|", "a-5": "wa +- +n5", "-5": "- +n5", "- 5": "- n5", "a\tb\nc": "wa wb wc", "a//\nb": "wa wb",
	} {
		if got := described(scanned(t, s)); got != want {
			t.Errorf("Scan(%q) = %q, want %q", s, got, want)
		}
	}
}

func TestP15_1Values(t *testing.T) {
	long := strings.Repeat("x", 1024)
	for s, want := range map[string]string{
		`""`: "", `"a b"`: "a b", `"\"\\\n\r\t"`: "\"\\\n\r\t", `"\u{0}\u{7f}\u{7F}\u{000041}"`: "\x00\x7F\x7FA", `"\u{e9}\u{20AC}\u{10fFfF}"`: "é€\U0010FFFF", `"\u{d7ff}\u{E000}"`: "\uD7FF\uE000", "\"é€\U0010FFFF\u0080~ \"": "é€\U0010FFFF\u0080~ ", `"//'"`: "//'", `"\\u{41}"`: `\u{41}`, `"` + long + `"`: long, `"` + strings.Repeat(`\u{e9}`, 512) + `"`: strings.Repeat("é", 512),
		`x""`: "", `x"00ff"`: "\x00\xFF", `x"aBCd22"`: "\xAB\xCD\"", `x"` + strings.Repeat("78", 1024) + `"`: long,
	} {
		l := scanned(t, s)
		kind := str
		if s[0] == 'x' {
			kind = bytes
		}
		if x := l[0]; len(l) != 2 || x != (token{Kind: kind, Line: 1, Column: 1, Value: want}) || l[1].Column != len(s)+1 {
			t.Errorf("Scan(%.60q) = %.60v", s, l)
		}
	}
}

func TestP15_1Numbers(t *testing.T) {
	for s, want := range map[string]N{"0": {}, "7": {Int: 7}, "0d": {}, "7d": {Int: 7}, "0.00": {Scale: 2}, "0.50": {Int: 50, Scale: 2}, "10": {Int: 10}, "999999999999999": {Int: api.MaxNumber}, "999999999999999d": {Int: api.MaxNumber}, "999.999999999999": {Int: api.MaxNumber, Scale: 12}} {
		l := scanned(t, s)
		if len(l) != 2 || l[0] != (token{Kind: number, Line: 1, Column: 1, Text: s, Number: want}) {
			t.Errorf("Scan(%q) = %v", s, l)
		}
	}
	for s, e := range map[string]api.Errno{"00": api.ErrFormat, "01": api.ErrFormat, "007.5": api.ErrFormat, "00d": api.ErrFormat, "0000000000000000000000": api.ErrFormat, "1000000000000000": api.ErrSyntax, "9999.999999999999": api.ErrSyntax, "0.0000000000000": api.ErrSyntax, "1000000000000000d": api.ErrSyntax, "100000000000000000": api.ErrLong, "0.0000000000000000": api.ErrLong, "100000000000000000d": api.ErrLong} {
		expectError(t, s, 1, 1, e)
		expectError(t, "a\n -"+s+" #", 2, 3, e)
	}
}

func TestP15_1Errors(t *testing.T) {
	long := strings.Repeat("x", 1025)
	for _, c := range []struct {
		s            string
		line, column int
		e            api.Errno
	}{
		{"#", 1, 1, api.ErrByte}, {"a ! b", 1, 3, api.ErrByte}, {"a / b", 1, 3, api.ErrByte}, {"/", 1, 1, api.ErrByte}, {"a/", 1, 2, api.ErrByte}, {"a\r\n", 1, 2, api.ErrByte}, {"\v", 1, 1, api.ErrByte}, {"\x00", 1, 1, api.ErrByte}, {"\x7F", 1, 1, api.ErrByte}, {"é", 1, 1, api.ErrByte}, {"aé", 1, 2, api.ErrByte}, {"_a", 1, 1, api.ErrByte}, {"'a'", 1, 1, api.ErrByte}, {"\\", 1, 1, api.ErrByte}, {"//\n\n ~", 3, 2, api.ErrByte}, {"!", 1, 1, api.ErrByte}, {"a%#", 1, 2, api.ErrByte}, {"$ 00", 1, 1, api.ErrByte}, {"Zz_09 _", 1, 7, api.ErrByte}, {"12dé", 1, 4, api.ErrByte}, {"^`", 1, 1, api.ErrByte},
		{strings.Repeat("w", 65), 1, 1, api.ErrLong}, {"a\n " + strings.Repeat("W_9", 30), 2, 2, api.ErrLong}, {strings.Repeat("w", 65) + "#", 1, 1, api.ErrLong},
		{"\"ab", 1, 4, api.ErrTruncated}, {"\"", 1, 2, api.ErrTruncated}, {"a\n\"", 2, 2, api.ErrTruncated}, {"\"\\\"", 1, 4, api.ErrTruncated}, {"\"a\nb\"", 1, 3, api.ErrByte}, {"\"\t\"", 1, 2, api.ErrByte}, {"\"\x7F", 1, 2, api.ErrByte}, {"\"\x1F\xFF", 1, 2, api.ErrByte}, {"\"\x00\"", 1, 2, api.ErrByte},
		{"\"a\xFF\n", 1, 3, api.ErrText}, {"\"\xC3\"", 1, 2, api.ErrText}, {"\"é\xA9\"", 1, 4, api.ErrText}, {"\"\xC0\x80\"", 1, 2, api.ErrText}, {"\"\xED\xA0\x80\"", 1, 2, api.ErrText}, {"\"\xE2\x82", 1, 2, api.ErrText}, {"\"\xF4\x90\x80\x80\"", 1, 2, api.ErrText}, {"\"\xF0\x90\\n\"", 1, 2, api.ErrText},
		{`"\q"`, 1, 2, api.ErrSyntax}, {`"a\`, 1, 3, api.ErrSyntax}, {`"\u"`, 1, 2, api.ErrSyntax}, {`"\u{"`, 1, 2, api.ErrSyntax}, {`"\u{}"`, 1, 2, api.ErrSyntax}, {`"\u{41"`, 1, 2, api.ErrSyntax}, {`"\u{41`, 1, 2, api.ErrSyntax}, {`"\u{1234567}"`, 1, 2, api.ErrSyntax}, {`"\u{0000041}"`, 1, 2, api.ErrSyntax}, {`"\u{g}"`, 1, 2, api.ErrSyntax}, {`"\u41"`, 1, 2, api.ErrSyntax}, {`"\U{41}"`, 1, 2, api.ErrSyntax}, {`"\N"`, 1, 2, api.ErrSyntax}, {`"\/"`, 1, 2, api.ErrSyntax}, {`"\'"`, 1, 2, api.ErrSyntax}, {"\"\\\n\"", 1, 2, api.ErrSyntax}, {`"\ "`, 1, 2, api.ErrSyntax}, {`"\u{-1}"`, 1, 2, api.ErrSyntax},
		{`"\u{d800}"`, 1, 2, api.ErrText}, {`"\u{DFFF}"`, 1, 2, api.ErrText}, {`"ab\u{110000}`, 1, 4, api.ErrText}, {`"\u{ffffff}\q"`, 1, 2, api.ErrText},
		{`x"0"`, 1, 4, api.ErrSyntax}, {`x"0g"`, 1, 4, api.ErrSyntax}, {`x"g0"`, 1, 3, api.ErrSyntax}, {`x"00 "`, 1, 5, api.ErrSyntax}, {`x"0`, 1, 4, api.ErrTruncated}, {`x"00`, 1, 5, api.ErrTruncated}, {`x"`, 1, 3, api.ErrTruncated}, {"x\"00\n\"", 1, 5, api.ErrSyntax}, {`x"\"`, 1, 3, api.ErrSyntax}, {"\n\nax x\"000\" #", 3, 9, api.ErrSyntax}, {"x\"\xFF\"", 1, 3, api.ErrSyntax},
		{`a "` + long + `"`, 1, 3, api.ErrLong}, {`a "` + long, 1, 1028 + 1, api.ErrTruncated}, {`"` + long + "\n", 1, 1027, api.ErrByte}, {`"` + strings.Repeat(`\u{e9}`, 513) + `"`, 1, 1, api.ErrLong}, {"\n x\"" + strings.Repeat("00", 1025) + `"`, 2, 2, api.ErrLong}, {`x"` + strings.Repeat("00", 1025) + `0"`, 1, 2054, api.ErrSyntax}, {`x"` + strings.Repeat("0", 2050), 1, 2053, api.ErrTruncated}, {`"` + strings.Repeat("é", 512) + `x" #`, 1, 1, api.ErrLong},
	} {
		expectError(t, c.s, c.line, c.column, c.e)
	}
}

func TestP15_1Limits(t *testing.T) {
	full := strings.Repeat("a ", lexer.MaxTokens)
	if l := scanned(t, full); len(l) != lexer.MaxTokens+1 {
		t.Error(len(l))
	}
	if l := scanned(t, strings.Repeat(",", lexer.MaxTokens)); len(l) != lexer.MaxTokens+1 || l[0].Joined || !l[lexer.MaxTokens-1].Joined || l[lexer.MaxTokens].Joined {
		t.Error(len(l))
	}
	column := 2*lexer.MaxTokens + 1
	for _, more := range []string{"a", "00", "\"", "\"\xFF\"", "x\"g", ";", strings.Repeat("w", 65), "1000000000000000"} {
		expectError(t, full+more, 1, column, api.ErrLimit)
		expectError(t, full+"\n "+more, 2, 2, api.ErrLimit)
	}
	expectError(t, full+"#", 1, column, api.ErrByte)
	expectError(t, full+"\"", 1, column, api.ErrLimit)
	expectError(t, "#"+full+"a", 1, 1, api.ErrByte)
	if l := scanned(t, full+" // a"); l[lexer.MaxTokens] != (token{Line: 1, Column: column + 5}) {
		t.Error(l[lexer.MaxTokens])
	}
	blank := strings.Repeat("\n", lexer.MaxSource)
	if l := scanned(t, blank); l[0] != (token{Line: lexer.MaxSource + 1, Column: 1}) {
		t.Error(l)
	}
	expectError(t, blank+"\n", 1, 1, api.ErrLong)
	expectError(t, "#"+blank, 1, 1, api.ErrLong)
	if l := scanned(t, strings.Repeat("w", 64)); l[0].Text != strings.Repeat("w", 64) {
		t.Error(l)
	}
	if l := scanned(t, "//"+strings.Repeat("x", lexer.MaxSource-2)); l[0].Column != lexer.MaxSource+1 {
		t.Error(l)
	}
}

func TestP15_2Same(t *testing.T) {
	a := token{Kind: word, Line: 1, Column: 2, Text: "a"}
	moved := a
	moved.Line, moved.Column = 3, -4
	if !lexer.Same(nil, nil) || !lexer.Same(nil, []token{}) || !lexer.Same([]token{a}, []token{moved}) || lexer.Same([]token{a}, nil) || lexer.Same([]token{a}, []token{a, a}) || lexer.Same([]token{a, a}, []token{a}) {
		t.Error("Same")
	}
	for i, change := range []func(x *token){func(x *token) { x.Kind = symbol }, func(x *token) { x.Text = "b" }, func(x *token) { x.Value = "b" }, func(x *token) { x.Number.Int = 1 }, func(x *token) { x.Number.Scale = 1 }, func(x *token) { x.Joined = true }} {
		b := a
		change(&b)
		if lexer.Same([]token{a, a}, []token{a, b}) || lexer.Same([]token{b}, []token{a}) || !lexer.Same([]token{b}, []token{b}) {
			t.Error(i)
		}
	}
}

func TestP15_2Print(t *testing.T) {
	for s, want := range map[string]string{
		"": "", "// a": "", "a": "a", "a.b[2] >= 1.50 // limit": "a.b[2] >= 1.50", "  a\n\tb": "a b", "a - -5": "a - -5", "-  5": "- 5", "12d days": "12d days", "12days": "12days", "\"\\u{e9}\\u{A}\\u{7f}\" x\"0A\"x\"\"": "\"é\\n\\u{7f}\" x\"0a\"x\"\"", "a // b\n.c": "a .c", "\"x\"\"y\" \"z\"": "\"x\"\"y\" \"z\"", "1 .5": "1 .5", "1. 5": "1. 5", "x \"00\"": "x \"00\"", "< =": "< =",
	} {
		l, _, _, e := lexer.Scan(s)
		if text, f := lexer.Print(l); e != api.OK || text != want || f != api.OK {
			t.Errorf("Print(Scan(%q)) = %q, %d, want %q", s, text, f, want)
		}
	}
}

func TestP15_2PrintErrors(t *testing.T) {
	a, b, fin := token{Kind: word, Text: "a"}, token{Kind: symbol, Text: "+"}, token{}
	joined := func(x token) token {
		x.Joined = true
		return x
	}
	one := token{Kind: number, Text: "1", Number: N{Int: 1}}
	right := [][]token{{fin}, {a, fin}, {a, joined(b), fin}, {one, fin}, {{Kind: str, Value: "a"}, fin}, {{Kind: bytes, Value: "\xFF"}, {Kind: end, Line: -1, Column: 7}}, {a, a, fin}}
	for _, l := range right {
		if s, e := lexer.Print(l); e != api.OK || !lexer.Same(scanned(t, s), l) {
			t.Errorf("Print(%v) = %q, %d", l, s, e)
		}
	}
	huge := token{Kind: str, Value: strings.Repeat("x", 1<<20)}
	for _, l := range [][]token{
		nil, {a}, {a, b}, {fin, fin}, {fin, a}, {a, fin, b, fin}, {a, joined(a), fin}, {joined(a), fin}, {a, joined(fin)}, {one, joined(one), fin}, {{Kind: 6, Text: "a"}, fin}, {{Kind: -1, Text: "a"}, fin}, {{Kind: math.MaxInt, Text: "a"}, fin}, {{Kind: word}, fin}, {{Kind: word, Text: "1"}, fin}, {{Kind: word, Text: "a b"}, fin}, {{Kind: word, Text: "a "}, fin}, {{Kind: symbol, Text: "//"}, fin}, {{Kind: symbol, Text: "a"}, fin}, {{Kind: symbol, Text: "<"}, joined(token{Kind: symbol, Text: "="}), fin}, {{Kind: number, Text: "1"}, fin}, {{Kind: number, Text: "1.0", Number: N{Int: 1}}, fin}, {{Kind: number, Text: "01", Number: N{Int: 1}}, fin},
		{{Kind: str, Value: "\xFF"}, fin}, {{Kind: str, Value: "a", Text: "a"}, fin}, {{Kind: word, Text: "a", Value: "a"}, fin}, {{Kind: str, Value: strings.Repeat("x", 1025)}, fin}, {{Kind: bytes, Value: strings.Repeat("x", 1025)}, fin}, {{Kind: word, Text: "a", Number: N{Scale: 1}}, fin}, {{Kind: word, Text: strings.Repeat("a", 65)}, fin}, {{Kind: word, Text: "a // b"}, fin}, {{Kind: word, Text: "x"}, joined(token{Kind: str, Value: "00"}), fin}, {one, joined(token{Kind: word, Text: "d"}), fin}, {{Text: "a"}}, {a, {Number: N{Int: 1}}}, {{Value: "a"}},
		append(slices.Repeat([]token{a}, lexer.MaxTokens+1), fin), append(slices.Repeat([]token{{Kind: word, Text: strings.Repeat("a", 64)}}, 1009), fin), append(slices.Repeat([]token{huge}, 1<<16), fin),
	} {
		if s, e := lexer.Print(l); s != "" || e != api.ErrFormat {
			t.Errorf("Print(%.60v) = %.60q, %d", l, s, e)
		}
	}
	if s, e := lexer.Print(append(slices.Repeat([]token{a}, lexer.MaxTokens), fin)); len(s) != 2*lexer.MaxTokens-1 || e != api.OK {
		t.Error(len(s), e)
	}
	if s, e := lexer.Print(append(slices.Repeat([]token{{Kind: word, Text: strings.Repeat("a", 63)}}, 1024), fin)); len(s) != 65535 || e != api.OK {
		t.Error(len(s), e)
	}
}

func TestP15_3Quote(t *testing.T) {
	for s, want := range map[string]string{"": `""`, "a b": `"a b"`, "\"\\\n\r\t": `"\"\\\n\r\t"`, "\x00\x01\x0B\x1F\x7F ~": `"\u{0}\u{1}\u{b}\u{1f}\u{7f} ~"`, "é€\U0010FFFF\u0080": "\"é€\U0010FFFF\u0080\"", "//'": `"//'"`, "\xFF": "", "a\xC3": "", "\xED\xA0\x80": "", strings.Repeat("x", 2000): `"` + strings.Repeat("x", 2000) + `"`} {
		if q := lexer.Quote(s); q != want {
			t.Errorf("Quote(%.60q) = %.60q, want %.60q", s, q, want)
		}
	}
	for s, want := range map[string]string{"": `x""`, "\x00\x0A\xAB": `x"000aab"`, "\xFF\"z": `x"ff227a"`, strings.Repeat("x", 2000): `x"` + strings.Repeat("78", 2000) + `"`} {
		if q := lexer.QuoteBytes(s); q != want {
			t.Errorf("QuoteBytes(%.60q) = %.60q, want %.60q", s, q, want)
		}
	}
}

func TestP15_4Words(t *testing.T) {
	for s, want := range map[string]bool{"a": true, "Z": true, "Ab_9": true, "x": true, "d": true, "a__": true, strings.Repeat("w", 64): true, strings.Repeat("w", 65): false, "": false, "9a": false, "_a": false, "a b": false, "a ": false, " a": false, "a-": false, "é": false, "aé": false, "x\"\"": false, "a\n": false, "1": false, "@": false, "[": false, "`": false, "{": false, "a@": false, "a[": false, "a`": false, "a/": false, "a:": false} {
		if lexer.IsWord(s) != want {
			t.Errorf("IsWord(%q) = %v", s, !want)
		}
	}
}

func TestP15_4Symbols(t *testing.T) {
	want := strings.Fields("!= & ( ) * + , - -> . .. : ; < <= = > >= ? @ [ ] { | }")
	l := lexer.Symbols()
	if !slices.Equal(l, want) || len(l) != 25 {
		t.Error(l)
	}
	l[0] = "x"
	if !slices.Equal(lexer.Symbols(), want) {
		t.Error("two results share memory")
	}
	for _, s := range want {
		if !lexer.IsSymbol(s) || lexer.IsWord(s) {
			t.Errorf("IsSymbol(%q)", s)
		}
		if l := scanned(t, s); len(l) != 2 || l[0] != (token{Kind: symbol, Line: 1, Column: 1, Text: s}) {
			t.Errorf("Scan(%q) = %v", s, l)
		}
	}
	for _, s := range []string{"", " ", "a", "//", "[]", "==", "!", "/", "...", "-> ", " -", "->-", "#", "\"", "x", "_", "=>", "<-"} {
		if lexer.IsSymbol(s) {
			t.Errorf("IsSymbol(%q)", s)
		}
	}
}
