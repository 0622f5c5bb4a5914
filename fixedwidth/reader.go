package fixedwidth

import (
	"manifold/api"
	"manifold/calendar"
	"manifold/charset"
	"manifold/decimal"
	"manifold/fit"
	"manifold/value"
)

// reader reads the cells of a line. After an error, its methods keep this one.
type reader struct {
	kinds  readers
	at     int // the offset of the cell that was read last
	fields []api.Field
	err    api.Errno
}

// readers has a function for each scalar kind that reads a value of a type from its text, which is not empty.
type readers [api.Time + 1]func(r *reader, t api.Type, s string) api.Value

func allReaders() readers {
	return readers{
		api.Bool:    (*reader).flag,
		api.Int:     (*reader).number,
		api.Decimal: (*reader).number,
		api.Text:    (*reader).text,
		api.Bytes:   (*reader).bytes,
		api.Date:    (*reader).date,
		api.Time:    (*reader).time,
	}
}

// keep keeps an error, if there is one and it is the first one.
func (r *reader) keep(e api.Errno) {
	if r.err == api.OK {
		r.err = e
	}
}

// field reads the cell of a field at an offset.
func (r *reader) field(f api.TypeField, at int, cell string) {
	if r.err != api.OK {
		return
	}
	r.at = at
	x := r.value(f, unpadded(f.Type.Kind, cell))
	r.fields = append(r.fields, api.Field{Name: f.Name, Value: x})
}

// value reads the value of a field with a text, which is Null if the field is absent.
func (r *reader) value(f api.TypeField, s string) api.Value {
	switch {
	case s != "":
		v := r.kinds[f.Type.Kind](r, f.Type, s)
		if !fit.Fits(f.Type, v) {
			r.keep(api.ErrType)
		}
		return v
	case canBeEmpty(f.Type):
		return api.Value{Kind: f.Type.Kind}
	case f.Need == api.Defaulted:
		return f.Default[0]
	case f.Need == api.Required:
		r.keep(api.ErrAbsent)
	}
	return api.Value{}
}

func (r *reader) flag(t api.Type, s string) api.Value {
	if s != trueText && s != falseText {
		r.keep(api.ErrSyntax)
	}
	return value.Bool(s == trueText)
}

func (r *reader) number(t api.Type, s string) api.Value {
	n, e := decimal.Parse(s)
	switch {
	case e != api.OK:
		r.keep(api.ErrSyntax)
	case n.Scale != t.Scale:
		r.keep(api.ErrType)
	}
	return api.Value{Kind: t.Kind, Int: n.Int, Scale: n.Scale}
}

func (r *reader) text(t api.Type, s string) api.Value {
	switch {
	case !charset.Valid(s):
		r.keep(api.ErrText)
	case !isWritable(s):
		r.keep(api.ErrByte)
	}
	return value.Text(s)
}

func (r *reader) bytes(t api.Type, s string) api.Value {
	b, ok := readHex(s)
	if !ok {
		r.keep(api.ErrSyntax)
	}
	return value.Bytes(b)
}

func (r *reader) date(t api.Type, s string) api.Value {
	days, e := calendar.Parse(s)
	r.keep(e)
	return value.Date(days)
}

func (r *reader) time(t api.Type, s string) api.Value {
	millis, e := calendar.ParseTime(s)
	r.keep(e)
	return value.Time(millis)
}
