package parser

import (
	"manifold/api"
	"manifold/formula"
	"manifold/lexer"
	"manifold/value"
)

// value reads a value, which may be contained in others.
func (p *parser) value() api.Value {
	if !p.beginsValue() {
		p.t.Fail(api.ErrSyntax)
		return api.Value{}
	}
	p.values.begin(p.t)
	defer p.values.end()
	switch {
	case p.isWord() && !p.isScalarWord():
		return p.variantValue()
	case p.t.Accept("["):
		return value.List(enclosed(p.t, "]", p.value)...)
	case p.t.Accept("{"):
		return p.recordValue()
	}
	return formula.ReadValue(p.t)
}

// beginsValue reports whether the next token can begin a value; any word can, as the name of a case.
func (p *parser) beginsValue() bool {
	switch p.t.Peek().Kind {
	case lexer.Word, lexer.Number, lexer.String, lexer.Bytes:
		return true
	}
	return p.t.Is("-") || p.t.Is("[") || p.t.Is("{")
}

// isScalarWord reports whether the next token begins a scalar, and is not the name of a case.
func (p *parser) isScalarWord() bool {
	switch p.t.Peek().Text {
	case "true", "false", "date", "time":
		return !isBefore(p.t, "(")
	}
	return false
}

func (p *parser) variantValue() api.Value {
	name := p.word()
	p.t.Expect("(")
	v := p.value()
	p.t.Expect(")")
	return value.Variant(name, v)
}

// recordValue reads a record behind its first brace.
func (p *parser) recordValue() api.Value {
	earlier := map[string]bool{}
	return value.Record(enclosed(p.t, "}", func() api.Field {
		f := api.Field{Name: p.word()}
		if earlier[f.Name] {
			p.t.Fail(api.ErrDuplicate)
		}
		earlier[f.Name] = true
		p.t.Expect(":")
		f.Value = p.value()
		return f
	})...)
}
