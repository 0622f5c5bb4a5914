package parser

import (
	"manifold/api"
	"manifold/lexer"
)

// allDeclarations returns what reads the declarations, by their first words.
func allDeclarations() map[string]func(p *parser, x *api.Program) {
	return map[string]func(p *parser, x *api.Program){
		"schema":  func(p *parser, x *api.Program) { x.Schemas = another(p, x.Schemas, p.schema) },
		"source":  endpoints(api.Source),
		"sink":    endpoints(api.Sink),
		"queue":   endpoints(api.Queue),
		"service": func(p *parser, x *api.Program) { x.Services = another(p, x.Services, p.service) },
		"route":   func(p *parser, x *api.Program) { x.Routes = another(p, x.Routes, p.route) },
	}
}

// another reads a further declaration of a kind, whose first word is next.
func another[T any](p *parser, l []T, read func() T) []T {
	if len(l) == api.MaxFields {
		p.t.Fail(api.ErrLimit)
	}
	p.t.Next()
	return append(l, read())
}

func (p *parser) program() api.Program {
	var x api.Program
	p.t.Expect("program")
	x.Version = p.number()
	p.t.Expect(";")
	for read := p.declaration(); read != nil; read = p.declaration() {
		read(p, &x)
	}
	p.t.Take(lexer.End)
	return x
}

// declaration returns what reads the declaration that is next, or nil if none is.
func (p *parser) declaration() func(p *parser, x *api.Program) {
	return p.declarations[p.t.Peek().Text]
}

func (p *parser) schema() api.Schema {
	x := api.Schema{Name: p.word(), Version: p.number(), Type: p.wholeType()}
	p.t.Expect(";")
	return x
}

// endpoints returns what reads the declarations of a kind of endpoints.
func endpoints(kind int) func(p *parser, x *api.Program) {
	return func(p *parser, x *api.Program) {
		x.Endpoints = another(p, x.Endpoints, func() api.Endpoint { return p.endpoint(kind) })
	}
}

func (p *parser) endpoint(kind int) api.Endpoint {
	x := api.Endpoint{Kind: kind, Name: p.word()}
	p.t.Expect(":")
	x.Schema, x.Version = p.word(), p.number()
	p.t.Expect("as")
	x.Format = p.format()
	p.t.Expect(";")
	return x
}

func (p *parser) format() api.Format {
	switch {
	case p.t.Accept("tagged"):
		return api.Format{Kind: api.Tagged}
	case p.t.Accept("literal"):
		return api.Format{Kind: api.Literal}
	case p.t.Accept("delimited"):
		return api.Format{Kind: api.Delimited, Separator: p.separator()}
	case p.t.Accept("fixed"):
		return api.Format{Kind: api.Fixed, Widths: p.widths()}
	}
	p.t.Fail(api.ErrSyntax)
	return api.Format{}
}

func (p *parser) widths() []int {
	p.t.Expect("(")
	l := separated(p.t, ",", p.number)
	p.t.Expect(")")
	return l
}

// separator reads a string of one byte. It is less than 128, because strings are valid UTF-8.
func (p *parser) separator() int {
	if next := p.t.Peek(); next.Kind == lexer.String && len(next.Value) != 1 {
		p.t.Fail(api.ErrRange)
	}
	if s := p.text(); s != "" {
		return int(s[0])
	}
	return 0
}

func (p *parser) service() api.Service {
	x := api.Service{Name: p.word()}
	p.t.Expect(":")
	x.Request = p.word()
	p.t.Expect("->")
	x.Reply = p.word()
	x.Undo = p.t.Accept("undo")
	p.t.Expect(";")
	return x
}

func (p *parser) route() api.Route {
	x := api.Route{Name: p.word()}
	p.t.Expect("from")
	x.From = p.word()
	x.Steps = p.stepList()
	return x
}
