package literal

import (
	"strconv"
	"strings"

	"manifold/api"
	"manifold/calendar"
	"manifold/decimal"
	"manifold/quoted"
	"manifold/schema"
)

const hexDigits = "0123456789abcdef"

// writer makes the text of a valid value or type. It writes no more when the text is too long: parts can share their memory, so that the whole text could be far longer than what it is made from.
type writer struct{ text strings.Builder }

func (w *writer) isFull() bool { return w.text.Len() > api.MaxBytes }

// put writes strings one behind the other.
func (w *writer) put(l ...string) {
	for _, s := range l {
		w.text.WriteString(s)
	}
}

// comma writes what stands before the part of a list with an index.
func (w *writer) comma(i int) {
	if i > 0 {
		w.put(", ")
	}
}

func (w *writer) result() (string, api.Errno) {
	if w.isFull() {
		return "", api.ErrLong
	}
	return w.text.String(), api.OK
}

func (w *writer) writeValue(v api.Value) {
	if w.isFull() {
		return
	}
	switch v.Kind {
	case api.Null:
		w.put(nullWord)
	case api.Bool:
		w.put(boolWord(v.Int == 1))
	case api.Int:
		w.put(strconv.Itoa(v.Int))
	case api.Decimal:
		w.put(decimalText(v.Int, v.Scale))
		if v.Scale == 0 {
			w.put(decimalMark)
		}
	case api.Text:
		w.put(Quote(v.Text))
	case api.Bytes:
		w.put(QuoteBytes(v.Text))
	case api.Date:
		w.put(dateWord, " ", dateText(v.Int))
	case api.Time:
		w.put(timeWord, " ", timeText(v.Int))
	default:
		w.parts(v)
	}
}

// parts writes a value of a kind that has parts.
func (w *writer) parts(v api.Value) {
	switch v.Kind {
	case api.List:
		w.put("[")
		for i, x := range v.List {
			w.comma(i)
			w.writeValue(x)
		}
		w.put("]")
	case api.Record:
		w.put("{")
		for i, f := range v.Fields {
			w.comma(i)
			w.put(f.Name, ": ")
			w.writeValue(f.Value)
		}
		w.put("}")
	case api.Variant:
		w.put(v.Text, "(")
		w.writeValue(v.List[0])
		w.put(")")
	}
}

func boolWord(b bool) string {
	if b {
		return trueWord
	}
	return falseWord
}

// decimalText, dateText and timeText write numbers that are in the limits of packages decimal and calendar, so that they have texts.
func decimalText(n, scale int) string {
	s, _ := decimal.Text(api.Number{Int: n, Scale: scale})
	return s
}

func dateText(days int) string {
	s, _ := calendar.Text(days)
	return Quote(s)
}

func timeText(millis int) string {
	s, _ := calendar.TimeText(millis)
	return Quote(s)
}

func (w *writer) writeType(t api.Type) {
	if w.isFull() {
		return
	}
	name, _ := schema.KindName(t.Kind)
	w.put(name)
	if t.Kind == api.Bool {
		return
	}
	w.put("(")
	switch {
	case t.Kind == api.Decimal:
		w.put(strconv.Itoa(t.Scale), ", ")
		w.bounds(t, func(n int) string { return decimalText(n, t.Scale) })
	case t.Kind == api.Date:
		w.bounds(t, dateText)
	case t.Kind == api.Time:
		w.bounds(t, timeText)
	case t.Kind == api.Record || t.Kind == api.Variant:
		w.fields(t.Fields)
	case len(t.Words) > 0:
		w.words(t.Words)
	default:
		w.bounds(t, strconv.Itoa)
	}
	if t.Kind == api.List {
		w.put(", ")
		w.writeType(t.Elem[0])
	}
	w.put(")")
}

// bounds writes the bounds of a type, whose texts a function returns.
func (w *writer) bounds(t api.Type, text func(n int) string) { w.put(text(t.Min), "..", text(t.Max)) }

func (w *writer) words(l []string) {
	for i, word := range l {
		if w.isFull() {
			return
		}
		if i > 0 {
			w.put(" | ")
		}
		w.put(Quote(word))
	}
}

func (w *writer) fields(l []api.TypeField) {
	for i, f := range l {
		w.comma(i)
		w.put(strconv.Itoa(f.Number), " ", f.Name)
		if f.Need == api.Optional {
			w.put("?")
		}
		w.put(": ")
		w.writeType(f.Type)
		if f.Need == api.Defaulted {
			w.put(" = ")
			w.writeValue(f.Default[0])
		}
	}
}

// Quote returns the text of a text value.
func Quote(s string) string {
	var text strings.Builder
	text.WriteByte('"')
	for i := range len(s) {
		switch c := s[i]; {
		case c == '"' || c == '\\':
			text.WriteByte('\\')
			text.WriteByte(c)
		case c == '\n':
			text.WriteString(`\n`)
		case c == '\r':
			text.WriteString(`\r`)
		case c == '\t':
			text.WriteString(`\t`)
		case quoted.IsControl(c):
			text.WriteString(`\u{` + strconv.FormatInt(int64(c), 16) + `}`)
		default:
			text.WriteByte(c)
		}
	}
	text.WriteByte('"')
	return text.String()
}

// QuoteBytes returns the text of bytes.
func QuoteBytes(s string) string {
	var text strings.Builder
	text.WriteString(`x"`)
	for i := range len(s) {
		text.WriteByte(hexDigits[s[i]>>4])
		text.WriteByte(hexDigits[s[i]&0xF])
	}
	text.WriteByte('"')
	return text.String()
}
