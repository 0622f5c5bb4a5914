package lexer_test

import (
	"encoding/hex"
	"math/rand"
	"regexp"
	"slices"
	"strconv"
	"strings"
	"testing"
	"unicode/utf8"

	"manifold/api"
	"manifold/decimal"
	"manifold/lexer"
)

// failing is an error at an offset.
type failing struct {
	at int
	e  api.Errno
}

var (
	blankForm  = regexp.MustCompile(`^([ \t\n]|//[^\n]*)*`)
	wordForm   = regexp.MustCompile(`^[A-Za-z][A-Za-z0-9_]*`)
	numberForm = regexp.MustCompile(`^[0-9]+(\.[0-9]+)?`)
	markForm   = regexp.MustCompile(`^[0-9]+d($|[^A-Za-z0-9_])`)
	zeroForm   = regexp.MustCompile(`^0[0-9]`)
	symbolForm = regexp.MustCompile(`^(->|!=|<=|>=|\.\.|[](){}[<>=:;,.?+*&@|-])`)
	plainForm  = regexp.MustCompile(`^\\(["\\nrt])`)
	codeForm   = regexp.MustCompile(`^\\u\{([0-9a-fA-F]{1,6})\}`)
)

// placeOf returns the line and the column of an offset.
func placeOf(s string, at int) (line, column int) {
	before := s[:at]
	return 1 + strings.Count(before, "\n"), at - strings.LastIndex(before, "\n")
}

// scanAsDefined scans in the words of the document.
func scanAsDefined(s string) (l []token, line, column int, e api.Errno) {
	if len(s) > lexer.MaxSource {
		return nil, 1, 1, api.ErrLong
	}
	for i := 0; ; {
		behind := i
		i += len(blankForm.FindString(s[i:]))
		if i == len(s) {
			line, column = placeOf(s, i)
			return append(l, token{Line: line, Column: column}), 0, 0, api.OK
		}
		x, size, f := tokenAsDefined(s[i:])
		if f.e != api.ErrByte || f.at > 0 {
			if len(l) == lexer.MaxTokens {
				f = failing{0, api.ErrLimit}
			}
		}
		if f.e != api.OK {
			line, column = placeOf(s, i+f.at)
			return nil, line, column, f.e
		}
		x.Line, x.Column = placeOf(s, i)
		x.Joined = len(l) > 0 && behind == i
		l = append(l, x)
		i += size
	}
}

// tokenAsDefined returns the token with which a text begins.
func tokenAsDefined(s string) (x token, size int, f failing) {
	switch {
	case strings.HasPrefix(s, `"`):
		return stringAsDefined(s)
	case strings.HasPrefix(s, `x"`):
		return bytesAsDefined(s)
	case wordForm.MatchString(s):
		x = token{Kind: word, Text: wordForm.FindString(s)}
		if len(x.Text) > lexer.MaxWord {
			return token{}, 0, failing{0, api.ErrLong}
		}
	case numberForm.MatchString(s):
		x = token{Kind: number, Text: numberForm.FindString(s)}
		n, e := decimal.Parse(x.Text)
		if zeroForm.MatchString(s) {
			e = api.ErrFormat
		}
		if e != api.OK {
			return token{}, 0, failing{0, e}
		}
		x.Number = n
		if markForm.MatchString(s) {
			x.Text += "d"
		}
	case symbolForm.MatchString(s):
		x = token{Kind: symbol, Text: symbolForm.FindString(s)}
	default:
		return token{}, 0, failing{0, api.ErrByte}
	}
	return x, len(x.Text), failing{}
}

func stringAsDefined(s string) (x token, size int, f failing) {
	meant := ""
	for i := 1; i < len(s); {
		rest := s[i:]
		code, plain := codeForm.FindStringSubmatch(rest), plainForm.FindStringSubmatch(rest)
		_, n := utf8.DecodeRuneInString(rest)
		switch {
		case rest[0] == '"':
			return valueAsDefined(str, meant, i+1)
		case rest[0] < 32 || rest[0] == 127:
			return x, 0, failing{i, api.ErrByte}
		case code != nil:
			p, _ := strconv.ParseInt(code[1], 16, 64)
			if !utf8.ValidRune(rune(p)) {
				return x, 0, failing{i, api.ErrText}
			}
			meant, i = meant+string(rune(p)), i+len(code[0])
		case plain != nil:
			meant, i = meant+map[string]string{`"`: `"`, `\`: `\`, "n": "\n", "r": "\r", "t": "\t"}[plain[1]], i+2
		case rest[0] == '\\':
			return x, 0, failing{i, api.ErrSyntax}
		case !utf8.ValidString(rest[:n]):
			return x, 0, failing{i, api.ErrText}
		default:
			meant, i = meant+rest[:n], i+n
		}
	}
	return x, 0, failing{len(s), api.ErrTruncated}
}

func bytesAsDefined(s string) (x token, size int, f failing) {
	digits := 0
	for 2+digits < len(s) && strings.Contains("0123456789abcdefABCDEF", s[2+digits:3+digits]) {
		digits++
	}
	switch {
	case 2+digits == len(s):
		return x, 0, failing{len(s), api.ErrTruncated}
	case s[2+digits] != '"' || digits%2 == 1:
		return x, 0, failing{2 + digits, api.ErrSyntax}
	}
	b, _ := hex.DecodeString(s[2 : 2+digits])
	return valueAsDefined(bytes, string(b), digits+3)
}

func valueAsDefined(kind int, meant string, size int) (token, int, failing) {
	if len(meant) > api.MaxText {
		return token{}, 0, failing{0, api.ErrLong}
	}
	return token{Kind: kind, Value: meant}, size, failing{}
}

// compare compares Scan of a text with what is defined, and counts the errors.
func compare(t *testing.T, s string, found map[api.Errno]int) {
	t.Helper()
	want, line, column, e := scanAsDefined(s)
	l, n, c, f := lexer.Scan(s)
	if !slices.Equal(l, want) || n != line || c != column || f != e {
		t.Fatalf("Scan(%q) = %v, %d, %d, %d, want %v, %d, %d, %d", s, l, n, c, f, want, line, column, e)
	}
	found[e]++
	if e == api.OK {
		comparePrint(t, s, l)
	}
	if is := e == api.OK && len(l) == 2 && l[0].Text == s && l[0].Kind == word; lexer.IsWord(s) != is {
		t.Fatalf("IsWord(%q) = %v", s, !is)
	}
	if is := e == api.OK && len(l) == 2 && l[0].Text == s && l[0].Kind == symbol; lexer.IsSymbol(s) != is {
		t.Fatalf("IsSymbol(%q) = %v", s, !is)
	}
}

// comparePrint checks that the tokens of a text are printed, and scanned again.
func comparePrint(t *testing.T, s string, l []token) {
	t.Helper()
	kept := slices.Clone(l)
	text, e := lexer.Print(l)
	again, _, _, f := lexer.Scan(text)
	if e != api.OK || f != api.OK || !lexer.Same(again, l) || !slices.Equal(l, kept) {
		t.Fatalf("Print(Scan(%q)) = %q, %d", s, text, e)
	}
	if canonical, _ := lexer.Print(again); canonical != text {
		t.Fatalf("%q is printed as %q, and then as %q", s, text, canonical)
	}
}

// eachText calls a function with the concatenations of at most a number of parts.
func eachText(parts []string, most int, f func(s string)) {
	var further func(s string, left int)
	further = func(s string, left int) {
		f(s)
		if left == 0 {
			return
		}
		for _, x := range parts {
			further(s+x, left-1)
		}
	}
	further("", most)
}

func TestP15_1AsDefined(t *testing.T) {
	found := map[api.Errno]int{}
	parts := []string{"a", "x", "d", "_", "0", "7", ".", "-", ">", "<", "=", "!", "/", "\"", " ", "\n", "\t", "\r", "é", "\\", "[", "\"\"", "1.5", "#"}
	eachText(parts, 4, func(s string) { compare(t, s, found) })
	bits := []string{`"`, `\`, "u", "{", "}", "4", "f", "n", "\n", "\x7F", "\xC3", "\xA9", "x", "g", "d800", "110000", "é", "\xF0\x9F"}
	for before, most := range map[string]int{`"`: 3, `x"`: 3, `"\u{`: 3, "\n1": 2, `"\u{4`: 3, `"\`: 3} {
		eachText(bits, most, func(s string) { compare(t, before+s, found); compare(t, before+s+`"`, found) })
	}
	for c := range 256 {
		for _, s := range []string{"", "a", "1", "\"", "x\"", "//", "\"\\", "-", "<", "1d", "x", "1.", "\"\\u{"} {
			compare(t, s+string([]byte{byte(c)}), found)
			compare(t, s+string([]byte{byte(c)})+"\"", found)
		}
	}
	for _, e := range []api.Errno{api.OK, api.ErrByte, api.ErrFormat, api.ErrText, api.ErrSyntax, api.ErrTruncated} {
		if found[e] < 1000 {
			t.Errorf("%d texts with the error %d", found[e], e)
		}
	}
}

// someParts are what random texts consist of.
var someParts = []string{"a", "body", "Zz_1", "x", "d", "date", "0", "12", "1.50", "7d", "00", "->", "!=", "<=", "..", "(", "]", "-", "?", "@", "|", " ", "\n", "\t", "// x\n", "//", `"a"`, `"\u{e9}"`, `""`, `x"0A"`, `x""`, `"é"`, "#", "\"", "\\", "/", "1000000000000000", strings.Repeat("w", 64), strings.Repeat("w", 65), "é"}

func TestP15_1Random(t *testing.T) {
	r := rand.New(rand.NewSource(1))
	found := map[api.Errno]int{}
	for range 30000 {
		s := ""
		for range r.Intn(12) {
			s += someParts[r.Intn(len(someParts)-r.Intn(2)*10)]
		}
		compare(t, s, found)
	}
	for _, e := range []api.Errno{api.OK, api.ErrByte, api.ErrFormat, api.ErrLong, api.ErrSyntax, api.ErrTruncated} {
		if found[e] < 100 {
			t.Errorf("%d texts with the error %d", found[e], e)
		}
	}
}

func TestP15_8BlanksDoNotMatter(t *testing.T) {
	r := rand.New(rand.NewSource(2))
	blanks := []string{" ", "\t", "\n", "//\n", " // x \"\n", "\n\n"}
	for range 5000 {
		var text, plain strings.Builder
		for range r.Intn(10) {
			p := someParts[r.Intn(24)]
			if p == "00" || p == "//" || strings.TrimSpace(p) == "" || p == "// x\n" {
				continue
			}
			text.WriteString(p + " ")
			plain.WriteString(p)
			for range 1 + r.Intn(3) {
				plain.WriteString(blanks[r.Intn(len(blanks))])
			}
		}
		if a, b := scanned(t, text.String()), scanned(t, plain.String()); !lexer.Same(a, b) {
			t.Fatalf("%q and %q differ", text.String(), plain.String())
		}
	}
}

func TestP15_8Quotes(t *testing.T) {
	r := rand.New(rand.NewSource(3))
	some := []string{"a", "\"", "\\", "\n", "\r", "\t", "\x00", "\x1F", "\x7F", "é", "\U0010FFFF", "u{41}", " ", "//", "\xFF"}
	for n := range 20000 {
		s := ""
		for range r.Intn(6) {
			s += some[r.Intn(len(some)-n%2)]
		}
		q := lexer.Quote(s)
		if !utf8.ValidString(s) {
			if q != "" {
				t.Fatalf("Quote(%q) = %q", s, q)
			}
		} else if l := scanned(t, q); len(l) != 2 || l[0] != (token{Kind: str, Line: 1, Column: 1, Value: s}) {
			t.Fatalf("Quote(%q) = %q", s, q)
		}
		if l := scanned(t, lexer.QuoteBytes(s)); len(l) != 2 || l[0] != (token{Kind: bytes, Line: 1, Column: 1, Value: s}) {
			t.Fatalf("QuoteBytes(%q)", s)
		}
	}
	long := strings.Repeat("é\n", 341) + "\"\""
	expectError(t, lexer.Quote(long), 1, 1, api.ErrLong)
	if l := scanned(t, lexer.Quote(long[:1024])); l[0].Value != long[:1024] {
		t.Error("a text of 1024 bytes")
	}
	expectError(t, lexer.QuoteBytes(long), 1, 1, api.ErrLong)
	if l := scanned(t, lexer.QuoteBytes(long[:1024])); l[0].Value != long[:1024] {
		t.Error("1024 bytes")
	}
}

// TestP15_5AsDefined compares streams with a list of tokens and an error, which is all that a stream is.
func TestP15_5AsDefined(t *testing.T) {
	r := rand.New(rand.NewSource(4))
	texts := []string{"a", "->", "-", "b", "", "x", "7"}
	for range 20000 {
		var s strings.Builder
		for range r.Intn(8) {
			s.WriteString([]string{"a", "->", "-", "-", "b", "7 ", "1.5 ", "0d ", "\"a\"", "x\"\"", " ", "\n", "13 "}[r.Intn(13)])
		}
		l, line, column, e := lexer.Scan(s.String())
		x := lexer.New(s.String())
		i := 0
		fail := func(f api.Errno) {
			if e == api.OK {
				line, column, e = l[i].Line, l[i].Column, f
			}
		}
		peek := func() token {
			if e != api.OK {
				return token{}
			}
			return l[i]
		}
		next := func() token {
			n := peek()
			if n.Kind != end {
				i++
			}
			return n
		}
		for range r.Intn(12) {
			text, kind, low, high := texts[r.Intn(len(texts))], r.Intn(7), r.Intn(20)-10, r.Intn(20)-5
			is := slices.Contains([]int{word, symbol}, peek().Kind) && peek().Text == text
			var got, want any
			switch r.Intn(8) {
			case 0:
				got, want = x.Peek(), peek()
			case 1, 2:
				got, want = x.Next(), next()
			case 3:
				got, want = x.Is(text), is
			case 4:
				got, want = x.Accept(text), is
				if is {
					next()
				}
			case 5:
				x.Expect(text)
				if is {
					next()
				} else {
					fail(api.ErrSyntax)
				}
			case 6:
				got, want = x.Take(kind), token{}
				if peek().Kind == kind {
					want = next()
				} else {
					fail(api.ErrSyntax)
				}
			case 7:
				got = x.Int(low, high)
				n, sign := 0, 1
				if low < 0 && peek().Text == "-" {
					next()
					sign = -1
				}
				if p := peek(); p.Kind != number {
					fail(api.ErrSyntax)
				} else if m := sign * p.Number.Int; p.Number.Scale != 0 || m < low || m > high {
					fail(api.ErrRange)
				} else {
					n = m
					next()
				}
				want = n
			}
			if got != want {
				t.Fatalf("%q: %v, want %v", s.String(), got, want)
			}
			expectState(t, x, line, column, e)
		}
		if x.Peek() != peek() {
			t.Fatalf("%q: %v, want %v", s.String(), x.Peek(), peek())
		}
	}
}
