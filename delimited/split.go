package delimited

import (
	"strings"

	"manifold/api"
)

// splitter divides a line into cells.
type splitter struct {
	line      string
	separator byte
	at        int    // where the line is read on; at an error, its offset
	text      []byte // of a quoted cell, as far as it was read
	cells     []Cell
	offsets   []int // at which the cells begin, and the one that is read
	err       api.Errno
}

// state reads on and returns the next state, or nil at the end of the line or at an error.
type state func(s *splitter) state

// Split returns the cells of a line, or the byte offset of the first error.
func Split(line string, separator int) (cells []Cell, at int, e api.Errno) {
	if !IsSeparator(separator) {
		return nil, 0, api.ErrRange
	}
	s := split(line, byte(separator))
	if s.err != api.OK {
		return nil, s.at, s.err
	}
	return s.cells, 0, api.OK
}

// split reads a line up to its end or its first error.
func split(line string, separator byte) splitter {
	s := splitter{line: line, separator: separator}
	if len(line) > api.MaxBytes {
		s.err = api.ErrLong
		return s
	}
	for next := state(beginCell); next != nil; {
		next = next(&s)
	}
	return s
}

// beginCell is the state at the first byte of a cell.
func beginCell(s *splitter) state {
	if len(s.cells) == MaxCells {
		return s.fail(api.ErrLimit)
	}
	s.offsets = append(s.offsets, s.at)
	if s.isAt(quote) {
		s.at++
		s.text = s.text[:0]
		return inQuotes
	}
	return unquoted
}

// unquoted is the state in a cell without quotation marks.
func unquoted(s *splitter) state {
	begin := s.at
	for s.at < len(s.line) && !s.isAt(s.separator) {
		if strings.IndexByte(special, s.line[s.at]) >= 0 {
			return s.fail(api.ErrByte)
		}
		s.at++
	}
	s.cells = append(s.cells, Cell{Text: s.line[begin:s.at]})
	return endCell
}

// inQuotes is the state between the quotation marks of a cell.
func inQuotes(s *splitter) state {
	size := strings.IndexByte(s.line[s.at:], quote)
	if size < 0 {
		s.at = len(s.line)
		return s.fail(api.ErrTruncated)
	}
	s.text = append(s.text, s.line[s.at:s.at+size]...)
	s.at += size + 1
	return behindQuote
}

// behindQuote is the state behind a quotation mark in a quoted cell, which is the second one of the cell or the first one of two that stand for one in the text.
func behindQuote(s *splitter) state {
	if s.isAt(quote) {
		s.text = append(s.text, quote)
		s.at++
		return inQuotes
	}
	if s.at < len(s.line) && !s.isAt(s.separator) {
		return s.fail(api.ErrSyntax)
	}
	s.cells = append(s.cells, Cell{Text: string(s.text), Quoted: true})
	return endCell
}

// endCell is the state behind a cell, at the separator or the end of the line.
func endCell(s *splitter) state {
	if s.at == len(s.line) {
		return nil
	}
	s.at++
	return beginCell
}

// isAt reports whether the next byte is there and has a value.
func (s *splitter) isAt(b byte) bool { return s.at < len(s.line) && s.line[s.at] == b }

// fail keeps an error at the place where the line was read on.
func (s *splitter) fail(e api.Errno) state {
	s.err = e
	return nil
}
