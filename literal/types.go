package literal

import (
	"manifold/api"
	"manifold/calendar"
)

// kindReaders has, for the word of each kind, a function that reads what stands behind it in a type on a level.
type kindReaders map[string]func(p *parser, level int) api.Type

func allKinds() kindReaders {
	return kindReaders{
		"bool":    func(p *parser, level int) api.Type { return api.Type{Kind: api.Bool} },
		"int":     func(p *parser, level int) api.Type { return p.boundedType(api.Int, p.integer) },
		"decimal": (*parser).decimalType,
		"text":    (*parser).textType,
		"bytes":   func(p *parser, level int) api.Type { return p.boundedType(api.Bytes, p.integer) },
		"date":    func(p *parser, level int) api.Type { return p.boundedType(api.Date, p.date) },
		"time":    func(p *parser, level int) api.Type { return p.boundedType(api.Time, p.time) },
		"list":    (*parser).listType,
		"record":  func(p *parser, level int) api.Type { return p.fieldsType(api.Record, level) },
		"variant": func(p *parser, level int) api.Type { return p.fieldsType(api.Variant, level) },
	}
}

// readType reads a type on a level.
func (p *parser) readType(level int) api.Type {
	if p.next.kind == word && level > api.MaxDepth {
		p.fail(p.next.at, api.ErrDepth)
	}
	t := p.takeKind(word)
	read, known := p.kinds[t.text]
	if !known {
		p.fail(t.at, api.ErrSyntax)
		return api.Type{}
	}
	return read(p, level)
}

func (p *parser) integer() int {
	t := p.takeKind(number)
	if !t.isInteger() {
		p.fail(t.at, api.ErrSyntax)
	}
	return t.number.Int
}

func (p *parser) date() int { return p.moment(calendar.Parse) }
func (p *parser) time() int { return p.moment(calendar.ParseTime) }

// bounds reads two bounds, each with a function.
func (p *parser) bounds(read func() int) (least, most int) {
	least = read()
	p.expect(twoDots)
	return least, read()
}

// boundedType reads the bounds of a type that has nothing else.
func (p *parser) boundedType(k int, read func() int) api.Type {
	t := api.Type{Kind: k}
	p.expect("(")
	t.Min, t.Max = p.bounds(read)
	p.expect(")")
	return t
}

func (p *parser) decimalType(level int) api.Type {
	t := api.Type{Kind: api.Decimal}
	p.expect("(")
	t.Scale = p.integer()
	p.expect(",")
	t.Min, t.Max = p.bounds(func() int { return p.unscaled(t.Scale) })
	p.expect(")")
	return t
}

// unscaled reads the text of a number with a scale.
func (p *parser) unscaled(scale int) int {
	t := p.takeKind(number)
	if t.number.Scale != scale || t.marked {
		p.fail(t.at, api.ErrSyntax)
	}
	return t.number.Int
}

func (p *parser) textType(level int) api.Type {
	t := api.Type{Kind: api.Text}
	p.expect("(")
	if p.next.kind == quotedText {
		for further := true; further; further = p.accept("|") {
			t.Words = append(t.Words, p.takeKind(quotedText).text)
		}
	} else {
		t.Min, t.Max = p.bounds(p.integer)
	}
	p.expect(")")
	return t
}

func (p *parser) listType(level int) api.Type {
	t := api.Type{Kind: api.List}
	p.expect("(")
	t.Min, t.Max = p.bounds(p.integer)
	p.expect(",")
	t.Elem = []api.Type{p.readType(level + 1)}
	p.expect(")")
	return t
}

// fieldsType reads the fields of a record type, or the cases of a variant type.
func (p *parser) fieldsType(k, level int) api.Type {
	t := api.Type{Kind: k}
	earlier := map[string]bool{}
	p.expect("(")
	p.list(")", func() { t.Fields = append(t.Fields, p.field(earlier, level+1)) })
	return t
}

// field reads a field whose type is on a level, and adds its name to the earlier ones.
func (p *parser) field(earlier map[string]bool, level int) api.TypeField {
	f := api.TypeField{Need: api.Required}
	f.Number = p.integer()
	f.Name = p.name(earlier)
	if p.accept("?") {
		f.Need = api.Optional
	}
	p.expect(":")
	f.Type = p.readType(level)
	if f.Need == api.Optional && p.next.is("=") {
		p.fail(p.next.at, api.ErrSyntax)
	}
	if p.accept("=") {
		f.Need = api.Defaulted
		f.Default = []api.Value{p.readValue(1)}
	}
	return f
}
