package lexer

import (
	"strings"

	"manifold/api"
	"manifold/charset"
	"manifold/decimal"
	"manifold/quoted"
)

// decimalMark stands behind a number without a period that is a Decimal.
const decimalMark = "d"

// found is what begins at a place: a token with its number of bytes, or an error with its distance from the place.
type found struct {
	token Token
	size  int
	at    int
	err   api.Errno
}

// finder returns what begins with a string, if it is a token of a kind.
type finder func(s string) (found, bool)

// finders returns what finds the kinds of tokens. Bytes come before words, because their first byte is a word, too.
func finders() []finder {
	return []finder{findBytes, findWord, findNumber, findString, findSymbol}
}

// wrong returns what is found if there is an error.
func wrong(at int, e api.Errno) (found, bool) { return found{at: at, err: e}, true }

// leading returns how many bytes of a kind a string begins with.
func leading(s string, is func(c byte) bool) int {
	n := 0
	for n < len(s) && is(s[n]) {
		n++
	}
	return n
}

func isLetter(c byte) bool   { return c >= 'a' && c <= 'z' || c >= 'A' && c <= 'Z' }
func isDigit(c byte) bool    { return c >= '0' && c <= '9' }
func isWordByte(c byte) bool { return isLetter(c) || isDigit(c) || c == '_' }

func findWord(s string) (found, bool) {
	if s == "" || !isLetter(s[0]) {
		return found{}, false
	}
	size := leading(s, isWordByte)
	if size > MaxWord {
		return wrong(0, api.ErrLong)
	}
	return found{token: Token{Kind: Word, Text: s[:size]}, size: size}, true
}

func findNumber(s string) (found, bool) {
	whole := leading(s, isDigit)
	if whole == 0 {
		return found{}, false
	}
	if whole > 1 && s[0] == '0' {
		return wrong(0, api.ErrFormat)
	}
	size := whole + fraction(s[whole:])
	n, e := decimal.Parse(s[:size])
	if e != api.OK {
		return wrong(0, e)
	}
	// A period stands where the mark would, if there is a fraction.
	if isMarked(s[whole:]) {
		size += len(decimalMark)
	}
	return found{token: Token{Kind: Number, Text: s[:size], Number: n}, size: size}, true
}

// fraction returns the size of the period and the digits with which a string begins.
func fraction(s string) int {
	behind, is := strings.CutPrefix(s, ".")
	digits := leading(behind, isDigit)
	if !is || digits == 0 {
		return 0
	}
	return 1 + digits
}

// isMarked reports whether a string begins with a mark that is not the beginning of a word.
func isMarked(s string) bool {
	return strings.HasPrefix(s, decimalMark) && leading(s, isWordByte) == len(decimalMark)
}

func findString(s string) (found, bool) {
	if !strings.HasPrefix(s, `"`) {
		return found{}, false
	}
	var text strings.Builder
	for at := 1; at < len(s); {
		if s[at] == '"' {
			return valued(String, text.String(), at+1)
		}
		meant, size, e := character(s[at:])
		if e != api.OK {
			return wrong(at, e)
		}
		text.WriteString(meant)
		at += size
	}
	return wrong(len(s), api.ErrTruncated)
}

// character returns what stands for a character at the beginning of a string, and its number of bytes.
func character(s string) (meant string, size int, e api.Errno) {
	switch {
	case quoted.IsControl(s[0]):
		return "", 0, api.ErrByte
	case s[0] == '\\':
		return quoted.Escape(s)
	}
	_, size, e = charset.Decode(s, 0)
	return s[:size], size, e
}

func findBytes(s string) (found, bool) {
	const begin = `x"`
	inside, is := strings.CutPrefix(s, begin)
	if !is {
		return found{}, false
	}
	meant, at, e := quoted.Bytes(inside)
	if e != api.OK {
		return wrong(len(begin)+at, e)
	}
	return valued(Bytes, meant, len(begin)+at+1)
}

// valued returns what is found if a token has a value.
func valued(kind int, meant string, size int) (found, bool) {
	if len(meant) > api.MaxText {
		return wrong(0, api.ErrLong)
	}
	return found{token: Token{Kind: kind, Value: meant}, size: size}, true
}

func findSymbol(s string) (found, bool) {
	for _, text := range symbols {
		if strings.HasPrefix(s, text) {
			return found{token: Token{Kind: Symbol, Text: text}, size: len(text)}, true
		}
	}
	return found{}, false
}

// scanner divides a text into tokens, and knows the line that it has reached.
type scanner struct {
	s      string
	at     int
	line   int
	begin  int // where the line begins
	tokens []Token
}

// scan finds all tokens, or returns the offset of the first error.
func (x *scanner) scan() (at int, e api.Errno) {
	all := finders()
	end := 0 // of the token before
	for x.skip(); x.at < len(x.s); x.skip() {
		f, is := find(all, x.s[x.at:])
		switch {
		case !is:
			return x.at, api.ErrByte
		case len(x.tokens) == MaxTokens:
			return x.at, api.ErrLimit
		case f.err != api.OK:
			return x.at + f.at, f.err
		}
		f.token.Joined = len(x.tokens) > 0 && end == x.at
		x.add(f.token)
		x.at += f.size
		end = x.at
	}
	x.add(Token{Kind: End})
	return 0, api.OK
}

// find tries one finder after another.
func find(all []finder, s string) (found, bool) {
	for _, try := range all {
		if f, is := try(s); is {
			return f, true
		}
	}
	return found{}, false
}

// add adds a token that begins where the scanner is.
func (x *scanner) add(t Token) {
	t.Line, t.Column = x.place(x.at)
	x.tokens = append(x.tokens, t)
}

// place returns the line and the column of an offset. It is in the line that the scanner has reached, because no token has a line feed.
func (x *scanner) place(at int) (line, column int) { return x.line, at - x.begin + 1 }

// skip skips blanks and comments.
func (x *scanner) skip() {
	for x.at < len(x.s) {
		switch c := x.s[x.at]; {
		case c == '\n':
			x.at++
			x.line++
			x.begin = x.at
		case c == ' ' || c == '\t':
			x.at++
		case strings.HasPrefix(x.s[x.at:], "//"):
			x.at += leading(x.s[x.at:], func(c byte) bool { return c != '\n' })
		default:
			return
		}
	}
}
