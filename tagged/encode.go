package tagged

import (
	"cmp"
	"slices"

	"manifold/api"
)

// encoders has a function for each kind that appends the bytes of a value of a type.
type encoders map[int]func(e encoders, b []byte, t api.Type, v api.Value) []byte

func allEncoders() encoders {
	return encoders{
		api.Bool:    encoders.flag,
		api.Int:     encoders.integer,
		api.Decimal: encoders.integer,
		api.Text:    encoders.text,
		api.Bytes:   encoders.text,
		api.Date:    encoders.integer,
		api.Time:    encoders.integer,
		api.List:    encoders.list,
		api.Record:  encoders.record,
		api.Variant: encoders.variant,
	}
}

// value appends the bytes of a value of a type.
func (e encoders) value(b []byte, t api.Type, v api.Value) []byte { return e[v.Kind](e, b, t, v) }

func (e encoders) flag(b []byte, t api.Type, v api.Value) []byte { return append(b, byte(v.Int)) }

func (e encoders) integer(b []byte, t api.Type, v api.Value) []byte {
	return appendNumber(b, zigzag(v.Int))
}

func (e encoders) text(b []byte, t api.Type, v api.Value) []byte { return appendBytes(b, v.Text) }

func (e encoders) list(b []byte, t api.Type, v api.Value) []byte {
	b = appendNumber(b, len(v.List))
	for _, x := range v.List {
		b = e.value(b, t.Elem[0], x)
	}
	return b
}

func (e encoders) record(b []byte, t api.Type, v api.Value) []byte {
	b = appendNumber(b, len(v.Fields))
	byNumber := slices.Clone(t.Fields)
	slices.SortFunc(byNumber, func(f, g api.TypeField) int { return cmp.Compare(f.Number, g.Number) })
	for _, f := range byNumber {
		if i := slices.IndexFunc(v.Fields, func(x api.Field) bool { return x.Name == f.Name }); i >= 0 {
			b = appendPart(b, f.Number, string(e.value(nil, f.Type, v.Fields[i].Value)))
		}
	}
	return b
}

func (e encoders) variant(b []byte, t api.Type, v api.Value) []byte {
	i := slices.IndexFunc(t.Fields, func(f api.TypeField) bool { return f.Name == v.Text })
	c := t.Fields[i]
	return appendPart(b, c.Number, string(e.value(nil, c.Type, v.List[0])))
}

// appendPart appends the bytes of a field, or of the value of a Variant.
func appendPart(b []byte, number int, bytes string) []byte {
	return appendBytes(appendNumber(b, number), bytes)
}

// appendBytes appends the number of some bytes, and these.
func appendBytes(b []byte, bytes string) []byte {
	return append(appendNumber(b, len(bytes)), bytes...)
}
