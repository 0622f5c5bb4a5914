package literal

import (
	"manifold/api"
	"manifold/calendar"
	"manifold/value"
)

// The words of values.
const (
	nullWord  = "null"
	trueWord  = "true"
	falseWord = "false"
	dateWord  = "date"
	timeWord  = "time"
)

// parser reads a text. After an error, the next token is the end of the text, so that its methods find nothing more to do.
type parser struct {
	s     string
	at    int   // behind the next token
	next  token // which is read ahead
	err   api.Errno
	errAt int
	kinds kindReaders // if a type is read
}

// newParser returns a parser whose next token is the first one of a text.
func newParser(s string) *parser {
	p := &parser{s: s}
	if len(s) > api.MaxBytes {
		p.fail(0, api.ErrLong)
	}
	p.take()
	return p
}

// fail keeps an error, if it is one and no other one was before, and its offset.
func (p *parser) fail(at int, e api.Errno) {
	if p.err == api.OK && e != api.OK {
		p.err, p.errAt = e, at
		p.next = token{kind: end, at: len(p.s)}
	}
}

// take returns the next token, and reads the one behind it.
func (p *parser) take() token {
	t := p.next
	if p.err != api.OK {
		return t
	}
	// A token with an error does not become the next one.
	if behind := p.scan(); p.err == api.OK {
		p.next = behind
	}
	return t
}

// takeKind takes a token that has to be of a kind.
func (p *parser) takeKind(k kind) token {
	if p.next.kind != k {
		p.fail(p.next.at, api.ErrSyntax)
		return token{}
	}
	return p.take()
}

// accept takes a symbol, if it is there, and reports whether it was.
func (p *parser) accept(text string) bool {
	is := p.next.is(text)
	if is {
		p.take()
	}
	return is
}

// expect takes a symbol that has to be there.
func (p *parser) expect(text string) {
	if !p.accept(text) {
		p.fail(p.next.at, api.ErrSyntax)
	}
}

// end finds what is left over.
func (p *parser) end() { p.takeKind(end) }

// list reads parts with commas between them, up to the symbol behind them, which is taken.
func (p *parser) list(closing string, read func()) {
	if p.accept(closing) {
		return
	}
	for further := true; further; further = p.accept(",") {
		read()
	}
	p.expect(closing)
}

// name reads a name that none of the earlier ones is equal to, and adds it to them.
func (p *parser) name(earlier map[string]bool) string {
	t := p.takeKind(word)
	p.checkName(t)
	if earlier[t.text] {
		p.fail(t.at, api.ErrDuplicate)
	}
	earlier[t.text] = true
	return t.text
}

// checkName finds whether a word is a name.
func (p *parser) checkName(t token) {
	if !value.IsName(t.text) {
		p.fail(t.at, api.ErrName)
	}
}

// beginsValue reports whether a token can begin a value.
func (t token) beginsValue() bool {
	switch t.kind {
	case word, number, quotedText, bytes:
		return true
	}
	return t.is("[") || t.is("{")
}

// readValue reads a value on a level.
func (p *parser) readValue(level int) api.Value {
	switch {
	case !p.next.beginsValue():
		p.fail(p.next.at, api.ErrSyntax)
	case level > api.MaxDepth:
		p.fail(p.next.at, api.ErrDepth)
	case p.next.kind == word:
		return p.wordValue(level)
	case p.next.kind == number:
		return numberValue(p.take())
	case p.next.kind == quotedText:
		return value.Text(p.take().text)
	case p.next.kind == bytes:
		return value.Bytes(p.take().text)
	case p.accept("["):
		return p.listValue(level)
	case p.accept("{"):
		return p.recordValue(level)
	}
	return api.Value{}
}

func numberValue(t token) api.Value {
	if t.isInteger() {
		return value.Int(t.number.Int)
	}
	return value.Decimal(t.number.Int, t.number.Scale)
}

// listValue reads a list behind its first bracket.
func (p *parser) listValue(level int) api.Value {
	v := api.Value{Kind: api.List}
	p.list("]", func() { v.List = append(v.List, p.readValue(level+1)) })
	return v
}

// recordValue reads a record behind its first brace.
func (p *parser) recordValue(level int) api.Value {
	var l []api.Field
	earlier := map[string]bool{}
	p.list("}", func() {
		f := api.Field{Name: p.name(earlier)}
		p.expect(":")
		f.Value = p.readValue(level + 1)
		l = append(l, f)
	})
	return value.Record(l...)
}

// wordValue reads a value that begins with a word.
func (p *parser) wordValue(level int) api.Value {
	t := p.take()
	if p.next.is("(") {
		return p.variantValue(t, level)
	}
	switch t.text {
	case trueWord, falseWord:
		return value.Bool(t.text == trueWord)
	case dateWord:
		return value.Date(p.moment(calendar.Parse))
	case timeWord:
		return value.Time(p.moment(calendar.ParseTime))
	case nullWord:
		if level == 1 {
			return api.Value{}
		}
	}
	p.fail(t.at, api.ErrSyntax)
	return api.Value{}
}

// variantValue reads a variant behind the name of its case.
func (p *parser) variantValue(name token, level int) api.Value {
	p.checkName(name)
	p.take()
	v := api.Value{Kind: api.Variant, Text: name.text, List: []api.Value{p.readValue(level + 1)}}
	p.expect(")")
	return v
}

// moment reads a string whose number a function of package calendar returns.
func (p *parser) moment(parse func(s string) (int, api.Errno)) int {
	t := p.takeKind(quotedText)
	n, e := parse(t.text)
	p.fail(t.at, e)
	return n
}
