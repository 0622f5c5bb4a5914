package codec

import (
	"manifold/api"
	"manifold/delimited"
	"manifold/fit"
	"manifold/fixedwidth"
	"manifold/literal"
	"manifold/tagged"
)

// coder writes and reads messages of a type in a format in which they can be written.
type coder interface {
	encode(v api.Value) (string, api.Errno)
	decode(data string) (v api.Value, at int, e api.Errno)
}

func coderOf(f api.Format, t api.Type) coder {
	switch f.Kind {
	case api.Delimited:
		return delimitedCoder{t, f.Separator}
	case api.Fixed:
		return fixedCoder{t, f.Widths}
	case api.Literal:
		return literalCoder{t}
	}
	return taggedCoder{t}
}

type taggedCoder struct{ t api.Type }

func (c taggedCoder) encode(v api.Value) (string, api.Errno) { return tagged.Encode(c.t, v) }

func (c taggedCoder) decode(data string) (v api.Value, at int, e api.Errno) {
	return tagged.Decode(c.t, data)
}

type delimitedCoder struct {
	t         api.Type
	separator int
}

func (c delimitedCoder) encode(v api.Value) (string, api.Errno) {
	return delimited.Encode(c.t, c.separator, v)
}

func (c delimitedCoder) decode(data string) (v api.Value, at int, e api.Errno) {
	return delimited.Decode(c.t, c.separator, data)
}

type fixedCoder struct {
	t      api.Type
	widths []int
}

func (c fixedCoder) encode(v api.Value) (string, api.Errno) {
	return fixedwidth.Encode(c.t, c.widths, v)
}

func (c fixedCoder) decode(data string) (v api.Value, at int, e api.Errno) {
	return fixedwidth.Decode(c.t, c.widths, data)
}

type literalCoder struct{ t api.Type }

func (c literalCoder) encode(v api.Value) (string, api.Errno) { return literal.Text(v) }

func (c literalCoder) decode(data string) (v api.Value, at int, e api.Errno) {
	v, at, e = literal.Parse(data)
	if e != api.OK {
		return api.Value{}, at, e
	}
	// Defaults may be left out in what people write.
	v, e = fit.Complete(c.t, v)
	return v, 0, e
}
