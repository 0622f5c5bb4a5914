package lexer

import "manifold/api"

// Stream reads tokens one after another, up to the first error.
type Stream struct {
	tokens       []Token
	at           int // the index of the next token
	line, column int // of the error
	err          api.Errno
}

// New returns a stream of the tokens of a text.
func New(s string) *Stream {
	var t Stream
	t.tokens, t.line, t.column, t.err = Scan(s)
	return &t
}

// Peek returns the next token; after an error it returns the zero Token.
func (t *Stream) Peek() Token {
	// A stream that New has not made has no tokens, not even End.
	if t == nil || t.err != api.OK || len(t.tokens) == 0 {
		return Token{}
	}
	return t.tokens[t.at]
}

// Next takes the next token; after an error it returns the zero Token.
func (t *Stream) Next() Token {
	next := t.Peek()
	if next.Kind != End {
		t.at++
	}
	return next
}

// Is reports whether the next token is a word or a symbol with a text.
func (t *Stream) Is(text string) bool {
	next := t.Peek()
	return (next.Kind == Word || next.Kind == Symbol) && next.Text == text
}

// Accept takes the next token if it is a word or a symbol with a text.
func (t *Stream) Accept(text string) bool {
	is := t.Is(text)
	if is {
		t.Next()
	}
	return is
}

// Expect requires a word or a symbol with a text.
func (t *Stream) Expect(text string) {
	if !t.Accept(text) {
		t.Fail(api.ErrSyntax)
	}
}

// Take requires a token of a kind.
func (t *Stream) Take(kind int) Token {
	if t.Peek().Kind != kind {
		t.Fail(api.ErrSyntax)
		return Token{}
	}
	return t.Next()
}

// Int requires an integer within limits.
func (t *Stream) Int(low, high int) int {
	negative := low < 0 && t.Accept("-")
	next := t.Peek()
	n := next.Number.Int
	if negative {
		n = -n
	}
	switch {
	case next.Kind != Number:
		t.Fail(api.ErrSyntax)
		return 0
	case next.Number.Scale != 0 || n < low || n > high:
		t.Fail(api.ErrRange)
		return 0
	}
	t.Next()
	return n
}

// Fail keeps an error, if it is the first one, at the next token.
func (t *Stream) Fail(e api.Errno) {
	if t == nil || t.err != api.OK || e == api.OK {
		return
	}
	next := t.Peek()
	t.line, t.column, t.err = next.Line, next.Column, e
}

// Error returns the place of the first error, and the error.
func (t *Stream) Error() (line, column int, e api.Errno) {
	if t == nil {
		return 0, 0, api.ErrArgument
	}
	return t.line, t.column, t.err
}
