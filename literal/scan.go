package literal

import (
	"strings"

	"manifold/api"
	"manifold/charset"
	"manifold/decimal"
	"manifold/quoted"
)

// kind is a kind of tokens.
type kind int

const (
	end kind = iota
	word
	number
	quotedText
	bytes
	symbol
)

const (
	blanks  = " \t\r\n"
	symbols = "[]{}():,=?|"
	twoDots = ".."
	// decimalMark stands behind a number without a period that is a Decimal.
	decimalMark = "d"
)

// token is a token that begins at an offset. Its text is what is written of words and symbols, and what is denoted by strings and bytes.
type token struct {
	kind   kind
	at     int
	text   string
	number api.Number
	marked bool // a number with decimalMark
}

// is reports whether a token is a symbol.
func (t token) is(text string) bool { return t.kind == symbol && t.text == text }

// isInteger reports whether a number denotes an Int.
func (t token) isInteger() bool { return t.kind == number && t.number.Scale == 0 && !t.marked }

// scan reads the token behind the one that was read last.
func (p *parser) scan() token {
	for p.hasOneOf(blanks) {
		p.at++
	}
	begin := p.at
	switch {
	case begin == len(p.s):
		return token{kind: end, at: begin}
	case strings.HasPrefix(p.s[begin:], `x"`):
		return token{kind: bytes, at: begin, text: p.bytesToken()}
	case isLetter(p.s[begin]):
		p.skip(isWordByte)
		return token{kind: word, at: begin, text: p.s[begin:p.at]}
	case isDigit(p.s[begin]) || p.s[begin] == '-':
		return p.numberToken()
	case p.s[begin] == '"':
		return token{kind: quotedText, at: begin, text: p.stringToken()}
	case strings.HasPrefix(p.s[begin:], twoDots):
		p.at += len(twoDots)
		return token{kind: symbol, at: begin, text: twoDots}
	case p.hasOneOf(symbols):
		p.at++
		return token{kind: symbol, at: begin, text: p.s[begin:p.at]}
	}
	p.fail(begin, api.ErrSyntax)
	return token{}
}

// hasOneOf reports whether the next byte is one of those of a string.
func (p *parser) hasOneOf(l string) bool {
	return p.at < len(p.s) && strings.IndexByte(l, p.s[p.at]) >= 0
}

// skip skips bytes of a kind, and returns how many there are.
func (p *parser) skip(is func(c byte) bool) int {
	begin := p.at
	for p.at < len(p.s) && is(p.s[p.at]) {
		p.at++
	}
	return p.at - begin
}

func isLetter(c byte) bool   { return c >= 'a' && c <= 'z' || c >= 'A' && c <= 'Z' }
func isDigit(c byte) bool    { return c >= '0' && c <= '9' }
func isWordByte(c byte) bool { return isLetter(c) || isDigit(c) || c == '_' }

// numberToken reads a number.
func (p *parser) numberToken() token {
	t := token{kind: number, at: p.at}
	if p.s[p.at] == '-' {
		p.at++
	}
	if p.skip(isDigit) == 0 {
		p.fail(t.at, api.ErrSyntax)
		return token{}
	}
	whole := p.at
	if p.hasOneOf(".") {
		p.at++
		if p.skip(isDigit) == 0 {
			p.at = whole // the period does not belong to the number
		}
	}
	n, e := decimal.Parse(p.s[t.at:p.at])
	p.fail(t.at, e)
	t.number = n
	if p.at == whole && p.hasOneOf(decimalMark) {
		p.at++
		t.marked = true
	}
	return t
}

// stringToken reads a string, and returns its text.
func (p *parser) stringToken() string {
	var text strings.Builder
	begin := p.at
	for p.at = begin + 1; p.at < len(p.s); {
		switch c := p.s[p.at]; {
		case c == '"':
			p.at++
			if !charset.Valid(text.String()) {
				p.fail(begin, api.ErrText)
			}
			return text.String()
		case quoted.IsControl(c):
			p.fail(p.at, api.ErrByte)
			return ""
		case c == '\\' && p.at+1 < len(p.s):
			meant, size, e := quoted.Escape(p.s[p.at:])
			if e != api.OK {
				p.fail(p.at, e)
				return ""
			}
			text.WriteString(meant)
			p.at += size
		default:
			text.WriteByte(c)
			p.at++
		}
	}
	p.fail(begin, api.ErrShort)
	return ""
}

// bytesToken reads bytes, and returns them.
func (p *parser) bytesToken() string {
	begin := p.at
	p.at += len(`x"`)
	meant, at, e := quoted.Bytes(p.s[p.at:])
	p.at += at
	switch e {
	case api.OK:
		p.at++
	case api.ErrTruncated:
		p.fail(begin, api.ErrShort)
	default:
		p.fail(p.at, e)
	}
	return meant
}
