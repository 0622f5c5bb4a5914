package parser

import (
	"manifold/api"
	"manifold/calendar"
	"manifold/lexer"
)

// allKinds returns what reads the types behind the words of their kinds.
func allKinds() map[string]func(p *parser) api.Type {
	return map[string]func(p *parser) api.Type{
		"bool":    func(p *parser) api.Type { return api.Type{Kind: api.Bool} },
		"int":     func(p *parser) api.Type { return p.bounded(api.Int, p.integer) },
		"decimal": (*parser).decimalType,
		"text":    (*parser).textType,
		"bytes":   func(p *parser) api.Type { return p.bounded(api.Bytes, p.number) },
		"date":    func(p *parser) api.Type { return p.bounded(api.Date, p.date) },
		"time":    func(p *parser) api.Type { return p.bounded(api.Time, p.time) },
		"list":    (*parser).listType,
		"record":  func(p *parser) api.Type { return p.fieldsType(api.Record) },
		"variant": func(p *parser) api.Type { return p.fieldsType(api.Variant) },
	}
}

// oneType reads a type, which may be contained in others.
func (p *parser) oneType() api.Type {
	read := p.kinds[p.t.Peek().Text]
	if read == nil {
		p.t.Fail(api.ErrSyntax)
		return api.Type{}
	}
	p.types.begin(p.t)
	defer p.types.end()
	p.t.Next()
	return read(p)
}

// bounds reads both bounds of a type.
func (p *parser) bounds(x *api.Type, read func() int) {
	x.Min = read()
	p.t.Expect("..")
	x.Max = read()
}

// bounded reads a type that has nothing but bounds.
func (p *parser) bounded(kind int, read func() int) api.Type {
	x := api.Type{Kind: kind}
	p.t.Expect("(")
	p.bounds(&x, read)
	p.t.Expect(")")
	return x
}

func (p *parser) integer() int { return p.unscaled(0) }
func (p *parser) date() int    { return p.moment(calendar.Parse) }
func (p *parser) time() int    { return p.moment(calendar.ParseTime) }

// unscaled reads a number that is written with a scale, and returns it without the period.
func (p *parser) unscaled(scale int) int {
	sign := 1
	if p.t.Accept("-") {
		sign = -1
	}
	if next := p.t.Peek(); next.Kind == lexer.Number && !hasScale(next, scale) {
		p.t.Fail(api.ErrRange)
	}
	return sign * p.t.Take(lexer.Number).Number.Int
}

// moment reads the string of a date or a time.
func (p *parser) moment(parse func(s string) (int, api.Errno)) int {
	n, e := parse(p.text())
	p.t.Fail(e)
	return n
}

func (p *parser) decimalType() api.Type {
	x := api.Type{Kind: api.Decimal}
	p.t.Expect("(")
	x.Scale = p.number()
	p.t.Expect(",")
	p.bounds(&x, func() int { return p.unscaled(x.Scale) })
	p.t.Expect(")")
	return x
}

func (p *parser) textType() api.Type {
	x := api.Type{Kind: api.Text}
	p.t.Expect("(")
	if p.t.Peek().Kind == lexer.String {
		x.Words = separated(p.t, "|", p.text)
	} else {
		p.bounds(&x, p.number)
	}
	p.t.Expect(")")
	return x
}

func (p *parser) listType() api.Type {
	x := api.Type{Kind: api.List}
	p.t.Expect("(")
	p.bounds(&x, p.number)
	p.t.Expect(",")
	x.Elem = []api.Type{p.oneType()}
	p.t.Expect(")")
	return x
}

// fieldsType reads a type that has fields or cases.
func (p *parser) fieldsType(kind int) api.Type {
	p.t.Expect("(")
	return api.Type{Kind: kind, Fields: enclosed(p.t, ")", p.field)}
}

func (p *parser) field() api.TypeField {
	f := api.TypeField{Number: p.number(), Name: p.word(), Need: api.Required}
	if p.t.Accept("?") {
		f.Need = api.Optional
	}
	p.t.Expect(":")
	f.Type = p.oneType()
	if !p.t.Is("=") {
		return f
	}
	if f.Need == api.Optional {
		p.t.Fail(api.ErrSyntax)
	}
	p.t.Next()
	f.Need = api.Defaulted
	f.Default = []api.Value{p.value()}
	return f
}
