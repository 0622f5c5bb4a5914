package tagged

import (
	"cmp"
	"slices"

	"manifold/api"
	"manifold/fit"
	"manifold/value"
)

// decoders has a function for each kind that reads a value of a type.
type decoders map[int]func(r *reader, t api.Type) api.Value

func allDecoders() decoders {
	return decoders{
		api.Bool:    (*reader).flag,
		api.Int:     (*reader).integer,
		api.Decimal: (*reader).integer,
		api.Text:    (*reader).text,
		api.Bytes:   (*reader).text,
		api.Date:    (*reader).integer,
		api.Time:    (*reader).integer,
		api.List:    (*reader).list,
		api.Record:  (*reader).record,
		api.Variant: (*reader).variant,
	}
}

// value reads a value of a valid type.
func (r *reader) value(t api.Type) api.Value {
	r.count++
	return r.kinds[t.Kind](r, t)
}

// isFull reports whether more values were read than are permitted. The bytes may have an error, which comes first, so that they are read to the end; but the values are not kept any more, because defaults can make far more of them than there are bytes.
func (r *reader) isFull() bool { return r.count > api.MaxNodes }

// checked returns a value without parts that begins at an offset, after finding whether it is one of its type.
func (r *reader) checked(t api.Type, v api.Value, begin int) api.Value {
	if r.err == api.OK && !fit.Fits(t, v) {
		r.fail(begin, api.ErrType)
	}
	return v
}

func (r *reader) flag(t api.Type) api.Value {
	switch {
	case r.err != api.OK:
		return api.Value{}
	case r.at == len(r.bytes):
		r.fail(r.at, api.ErrTruncated)
		return api.Value{}
	case r.bytes[r.at] > 1:
		r.fail(r.at, api.ErrFormat)
		return api.Value{}
	}
	r.at++
	return value.Bool(r.bytes[r.at-1] == 1)
}

func (r *reader) integer(t api.Type) api.Value {
	begin := r.at
	n := unzigzag(r.number())
	return r.checked(t, api.Value{Kind: t.Kind, Int: n, Scale: t.Scale}, begin)
}

func (r *reader) text(t api.Type) api.Value {
	begin := r.at
	return r.checked(t, api.Value{Kind: t.Kind, Text: r.counted()}, begin)
}

func (r *reader) list(t api.Type) api.Value {
	begin := r.at
	n := r.number()
	if n < t.Min || n > t.Max {
		r.fail(begin, api.ErrType)
	}
	v := api.Value{Kind: api.List}
	for i := 0; i < n && r.err == api.OK; i++ {
		if x := r.value(t.Elem[0]); !r.isFull() {
			v.List = append(v.List, x)
		}
	}
	return v
}

func (r *reader) record(t api.Type) api.Value {
	v := api.Value{Kind: api.Record}
	there := make([]bool, len(t.Fields))
	r.fields(func(number int) {
		i := find(t, number)
		if i < 0 {
			r.rest()
			return
		}
		there[i] = true
		if x := r.value(t.Fields[i].Type); !r.isFull() {
			v.Fields = append(v.Fields, api.Field{Name: t.Fields[i].Name, Value: x})
		}
	})
	for i, f := range t.Fields {
		if there[i] {
			continue
		}
		switch {
		case f.Need == api.Required:
			r.fail(r.at, api.ErrAbsent)
		case f.Need == api.Defaulted && !r.isFull():
			r.count += value.Size(f.Default[0])
			v.Fields = append(v.Fields, api.Field{Name: f.Name, Value: value.Clone(f.Default[0])})
		}
	}
	slices.SortFunc(v.Fields, func(a, b api.Field) int { return cmp.Compare(a.Name, b.Name) })
	return v
}

func (r *reader) variant(t api.Type) api.Value {
	begin := r.at
	i := find(t, r.number())
	if i < 0 {
		r.fail(begin, api.ErrField)
	}
	if r.err != api.OK {
		return api.Value{}
	}
	v := api.Value{Kind: api.Variant, Text: t.Fields[i].Name}
	r.part(func() { v.List = []api.Value{r.value(t.Fields[i].Type)} })
	return v
}
