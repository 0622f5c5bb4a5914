package delimited

import (
	"strings"

	"manifold/api"
	"manifold/calendar"
	"manifold/decimal"
	"manifold/fit"
	"manifold/value"
)

const hexDigits = "0123456789abcdef"

func isScalar(kind int) bool { return kind >= api.Bool && kind <= api.Time }

// CellOf returns the text of a value of a scalar type in a cell.
func CellOf(t api.Type, v api.Value) (string, api.Errno) {
	if !isScalar(t.Kind) {
		return "", api.ErrKind
	}
	if !fit.Fits(t, v) {
		return "", api.ErrType
	}
	text, e := textOf(v)
	if e != api.OK {
		return "", api.ErrType
	}
	return text, api.OK
}

// textOf returns the text of a value of a scalar kind, or an error if its number has none.
func textOf(v api.Value) (string, api.Errno) {
	switch v.Kind {
	case api.Bool:
		return boolText(v.Int == 1), api.OK
	case api.Int, api.Decimal:
		return decimal.Text(api.Number{Int: v.Int, Scale: v.Scale})
	case api.Bytes:
		return hexText(v.Text), api.OK
	case api.Date:
		return calendar.Text(v.Int)
	case api.Time:
		return calendar.TimeText(v.Int)
	}
	return v.Text, api.OK
}

func boolText(b bool) string {
	if b {
		return "true"
	}
	return "false"
}

// hexText returns two digits for each byte.
func hexText(bytes string) string {
	digits := make([]byte, 0, 2*len(bytes))
	for i := range len(bytes) {
		digits = append(digits, hexDigits[bytes[i]>>4], hexDigits[bytes[i]&0xF])
	}
	return string(digits)
}

// ValueOf returns the value of a scalar type with a text.
func ValueOf(t api.Type, s string) (api.Value, api.Errno) {
	if !isScalar(t.Kind) {
		return api.Value{}, api.ErrKind
	}
	v, ok := read(t.Kind, s)
	switch {
	case !ok:
		return api.Value{}, api.ErrSyntax
	case !fit.Fits(t, v):
		return api.Value{}, api.ErrType
	}
	return v, api.OK
}

// read returns the value of a scalar kind with a text, and whether there is one.
func read(kind int, s string) (v api.Value, ok bool) {
	switch kind {
	case api.Bool:
		return value.Bool(s == boolText(true)), s == boolText(true) || s == boolText(false)
	case api.Int:
		n, e := decimal.Parse(s)
		return value.Int(n.Int), e == api.OK && n.Scale == 0
	case api.Decimal:
		n, e := decimal.Parse(s)
		return value.Decimal(n.Int, n.Scale), e == api.OK
	case api.Bytes:
		bytes, ok := readHex(s)
		return value.Bytes(bytes), ok
	case api.Date:
		days, e := calendar.Parse(s)
		return value.Date(days), e == api.OK
	case api.Time:
		millis, e := calendar.ParseTime(s)
		return value.Time(millis), e == api.OK
	}
	return value.Text(s), true
}

// readHex returns the bytes with two digits each.
func readHex(s string) (bytes string, ok bool) {
	if len(s)%2 != 0 {
		return "", false
	}
	b := make([]byte, 0, len(s)/2)
	for i := 0; i < len(s); i += 2 {
		high, low := strings.IndexByte(hexDigits, s[i]), strings.IndexByte(hexDigits, s[i+1])
		if high < 0 || low < 0 {
			return "", false
		}
		b = append(b, byte(high<<4|low))
	}
	return string(b), true
}
