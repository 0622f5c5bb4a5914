package formula

import (
	"strings"

	"manifold/api"
	"manifold/calendar"
	"manifold/lexer"
	"manifold/path"
	"manifold/value"
)

// ReadValue reads a scalar value from a stream.
func ReadValue(t *lexer.Stream) api.Value {
	v, is := readValue(t)
	if !is {
		t.Fail(api.ErrSyntax)
	}
	if hasFailed(t) {
		return api.Value{}
	}
	return v
}

// readValue reads a value, if one begins with the next token, and reports whether it does.
func readValue(t *lexer.Stream) (v api.Value, is bool) {
	switch next := t.Peek(); {
	case next.Kind == lexer.Number:
		return number(t.Next(), 1), true
	case next.Kind == lexer.String:
		return value.Text(t.Next().Value), true
	case next.Kind == lexer.Bytes:
		return value.Bytes(t.Next().Value), true
	case isNegative(t):
		t.Next()
		return number(t.Next(), -1), true
	case t.Accept(trueWord):
		return value.Bool(true), true
	case t.Accept(falseWord):
		return value.Bool(false), true
	case t.Accept(dateWord):
		return value.Date(moment(t, calendar.Parse)), true
	case t.Accept(timeWord):
		return value.Time(moment(t, calendar.ParseTime)), true
	}
	return api.Value{}, false
}

// isNegative reports whether the next token is a hyphen that belongs to the number directly behind it.
func isNegative(t *lexer.Stream) bool {
	if !t.Is("-") {
		return false
	}
	ahead := *t // goes on alone
	ahead.Next()
	behind := ahead.Peek()
	return behind.Kind == lexer.Number && behind.Joined
}

// number returns the value of a number with a sign.
func number(t lexer.Token, sign int) api.Value {
	n := sign * t.Number.Int
	if t.Number.Scale > 0 || strings.HasSuffix(t.Text, decimalMark) {
		return value.Decimal(n, t.Number.Scale)
	}
	return value.Int(n)
}

// moment reads the string of a date or a time.
func moment(t *lexer.Stream, parse func(s string) (int, api.Errno)) int {
	s := t.Take(lexer.String)
	n, e := parse(s.Value)
	t.Fail(e)
	return n
}

// ReadPath reads a path from a stream.
func ReadPath(t *lexer.Stream) string {
	if isReserved(t.Peek().Text) {
		t.Fail(api.ErrSyntax)
	}
	var text strings.Builder
	text.WriteString(t.Take(lexer.Word).Text)
	for t.Peek().Joined && (t.Is(".") || t.Is("[") || t.Is("?")) {
		first := t.Next().Text
		text.WriteString(first)
		if first != "[" {
			text.WriteString(joined(t, lexer.Word))
			continue
		}
		if t.Is("*") {
			text.WriteString(joined(t, lexer.Symbol))
		} else {
			text.WriteString(joined(t, lexer.Number))
		}
		if !t.Is("]") {
			t.Fail(api.ErrSyntax)
		}
		text.WriteString(joined(t, lexer.Symbol))
	}
	_, e := path.Parse(text.String())
	t.Fail(e)
	if hasFailed(t) {
		return ""
	}
	return text.String()
}

// joined takes a token of a kind that has to stand directly behind the one before, and returns its text.
func joined(t *lexer.Stream, kind int) string {
	if !t.Peek().Joined {
		t.Fail(api.ErrSyntax)
	}
	return t.Take(kind).Text
}
