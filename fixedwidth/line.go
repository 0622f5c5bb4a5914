package fixedwidth

import (
	"iter"
	"slices"
	"strings"

	"manifold/api"
	"manifold/fit"
	"manifold/value"
)

// Cells divides a line into cells of some widths.
func Cells(line string, widths []int) ([]string, api.Errno) {
	if len(widths) > api.MaxFields || slices.ContainsFunc(widths, func(w int) bool { return !isWidth(w) }) {
		return nil, api.ErrRange
	}
	if _, e := checkLength(line, widths); e != api.OK {
		return nil, e
	}
	var l []string
	for _, cell := range cells(line, widths) {
		l = append(l, cell)
	}
	return l, api.OK
}

// checkLength returns the error of a line that has more or fewer bytes than its cells, and the offset at which the shorter ones of both end.
func checkLength(line string, widths []int) (at int, e api.Errno) {
	n := sum(widths)
	switch {
	case len(line) < n:
		return len(line), api.ErrShort
	case len(line) > n:
		return n, api.ErrLong
	}
	return 0, api.OK
}

// cells yields the offsets and the cells of a line that has as many bytes as these.
func cells(line string, widths []int) iter.Seq2[int, string] {
	return func(yield func(int, string) bool) {
		at := 0
		for _, w := range widths {
			if !yield(at, line[at:at+w]) {
				return
			}
			at += w
		}
	}
}

// Encode returns the line of a value.
func Encode(t api.Type, widths []int, v api.Value) (string, api.Errno) {
	if e := Representable(t, widths); e != api.OK {
		return "", e
	}
	if !fit.Fits(t, v) {
		return "", api.ErrType
	}
	var line strings.Builder
	texts := allTexts()
	for i, f := range t.Fields {
		text := ""
		if x, has := value.Field(v, f.Name); has {
			text = texts[x.Kind](x)
		}
		if !isWritable(text) {
			return "", api.ErrByte
		}
		line.WriteString(padded(f.Type.Kind, text, widths[i]))
	}
	return line.String(), api.OK
}

// Decode returns the value of a line, or the byte offset of the first error.
func Decode(t api.Type, widths []int, line string) (v api.Value, at int, e api.Errno) {
	if e := Representable(t, widths); e != api.OK {
		return api.Value{}, 0, e
	}
	if at, e := checkLength(line, widths); e != api.OK {
		return api.Value{}, at, e
	}
	r := reader{kinds: allReaders()}
	i := 0
	for at, cell := range cells(line, widths) {
		r.field(t.Fields[i], at, cell)
		i++
	}
	if r.err != api.OK {
		return api.Value{}, r.at, r.err
	}
	return value.Record(r.fields...), 0, api.OK
}

// padded returns the cell with the text of a value of a kind, and unpadded the text in such a cell.
func padded(kind int, text string, width int) string {
	spaces := strings.Repeat(" ", width-len(text))
	if isNumber(kind) {
		return spaces + text
	}
	return text + spaces
}

func unpadded(kind int, cell string) string {
	if isNumber(kind) {
		return strings.TrimLeft(cell, " ")
	}
	return strings.TrimRight(cell, " ")
}

func isNumber(kind int) bool { return kind == api.Int || kind == api.Decimal }
