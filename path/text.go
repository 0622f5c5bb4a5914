package path

import (
	"iter"
	"strconv"
	"strings"

	"manifold/api"
	"manifold/value"
)

const (
	fieldMark  = "."
	caseMark   = "?"
	indexMark  = "["
	indexEnd   = "]"
	allSign    = "*"
	beginnings = fieldMark + caseMark + indexMark
)

// Text returns the text of a path.
func Text(l []Part) (string, api.Errno) {
	if e := Check(l); e != api.OK {
		return "", e
	}
	return text(l), api.OK
}

// text returns the texts of parts, of which the first one is a field, one behind the other.
func text(l []Part) string {
	var b strings.Builder
	for _, p := range l {
		b.WriteString(partText(p))
	}
	return strings.TrimPrefix(b.String(), fieldMark)
}

func partText(p Part) string {
	switch p.Kind {
	case Field:
		return fieldMark + p.Name
	case Index:
		return indexMark + strconv.Itoa(p.Index) + indexEnd
	case Case:
		return caseMark + p.Name
	}
	return indexMark + allSign + indexEnd
}

// Parse returns the path with a text.
func Parse(s string) ([]Part, api.Errno) {
	if s == "" {
		return nil, api.ErrShort
	}
	if len(s) > MaxBytes {
		return nil, api.ErrLong
	}
	var l []Part
	// With the period that the first part goes without, it is read as any other field.
	for p, ok := range parts(fieldMark + s) {
		if !ok {
			return nil, api.ErrSyntax
		}
		l = append(l, p)
	}
	if len(l) > MaxParts {
		return nil, api.ErrLimit
	}
	return l, api.OK
}

// parts yields the parts of a text, each with true, up to the first one that is wrong, with which it yields false.
func parts(s string) iter.Seq2[Part, bool] {
	return func(yield func(Part, bool) bool) {
		for ok := true; ok && s != ""; {
			var p Part
			p, s, ok = cutPart(s)
			if !yield(p, ok) {
				return
			}
		}
	}
}

// cutPart cuts a part off the beginning of a text that is not empty, and returns the rest.
func cutPart(s string) (p Part, rest string, ok bool) {
	mark, behind := s[:1], s[1:]
	switch mark {
	case fieldMark:
		return cutName(Field, behind)
	case caseMark:
		return cutName(Case, behind)
	case indexMark:
		return cutIndex(behind)
	}
	return Part{}, "", false
}

// cutName cuts a name, which reaches up to the next part, off the beginning of a text.
func cutName(kind int, s string) (p Part, rest string, ok bool) {
	end := strings.IndexAny(s, beginnings)
	if end < 0 {
		end = len(s)
	}
	if !value.IsName(s[:end]) {
		return Part{}, "", false
	}
	return Part{Kind: kind, Name: s[:end]}, s[end:], true
}

// cutIndex cuts an index or an asterisk, and the bracket behind it, off the beginning of a text.
func cutIndex(s string) (p Part, rest string, ok bool) {
	inside, rest, found := strings.Cut(s, indexEnd)
	if inside == allSign && found {
		return Part{Kind: All}, rest, true
	}
	n, err := strconv.Atoi(inside)
	// What Atoi reads beyond plain decimals (signs and superfluous zeros) is not what Itoa writes.
	if !found || err != nil || !isIndex(n) || strconv.Itoa(n) != inside {
		return Part{}, "", false
	}
	return Part{Kind: Index, Index: n}, rest, true
}
