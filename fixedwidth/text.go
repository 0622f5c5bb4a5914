package fixedwidth

import (
	"strings"

	"manifold/api"
	"manifold/calendar"
	"manifold/decimal"
)

const (
	trueText  = "T"
	falseText = "F"
	hexDigits = "0123456789abcdef"
	// firstWritable is the least byte that a text may contain.
	firstWritable = ' '
)

// texts has a function for each scalar kind that returns the text of a value of a valid type. Their numbers are in the limits of packages decimal and calendar, so that they have texts.
type texts [api.Time + 1]func(v api.Value) string

func allTexts() texts {
	return texts{
		api.Bool:    boolText,
		api.Int:     func(v api.Value) string { return numberText(v.Int, v.Scale) },
		api.Decimal: func(v api.Value) string { return numberText(v.Int, v.Scale) },
		api.Text:    func(v api.Value) string { return v.Text },
		api.Bytes:   hexText,
		api.Date:    dateText,
		api.Time:    timeText,
	}
}

func boolText(v api.Value) string {
	if v.Int == 1 {
		return trueText
	}
	return falseText
}

func numberText(n, scale int) string {
	s, _ := decimal.Text(api.Number{Int: n, Scale: scale})
	return s
}

func dateText(v api.Value) string {
	s, _ := calendar.Text(v.Int)
	return s
}

func timeText(v api.Value) string {
	s, _ := calendar.TimeText(v.Int)
	return s
}

func hexText(v api.Value) string {
	var s strings.Builder
	for i := range len(v.Text) {
		b := v.Text[i]
		s.WriteByte(hexDigits[b>>4])
		s.WriteByte(hexDigits[b&0xF])
	}
	return s.String()
}

// readHex returns the bytes with two digits each.
func readHex(s string) (bytes string, ok bool) {
	if len(s)%2 != 0 {
		return "", false
	}
	var b strings.Builder
	for i := 0; i < len(s); i += 2 {
		high, low := strings.IndexByte(hexDigits, s[i]), strings.IndexByte(hexDigits, s[i+1])
		if high < 0 || low < 0 {
			return "", false
		}
		b.WriteByte(byte(high<<4 | low))
	}
	return b.String(), true
}

// isWritable reports whether a text comes back from its cell: spaces at its end would be taken for padding.
func isWritable(text string) bool {
	for i := range len(text) {
		if text[i] < firstWritable {
			return false
		}
	}
	return !strings.HasSuffix(text, " ")
}
