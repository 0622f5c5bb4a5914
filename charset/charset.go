// Package charset converts and checks text encodings: UTF-8, Latin-1 and ASCII, and checks names. It is layer 3: see shared/doc/03-charset.md.
package charset

import "manifold/api"

// The limits of code points.
const (
	MaxPoint       = 0x10FFFF
	FirstSurrogate = 0xD800
	LastSurrogate  = 0xDFFF
)

// Substitute is the byte that replaces a code point that ASCII does not have.
const Substitute = '?'

const (
	latinPoints = 0x100
	asciiPoints = 0x80
)

// Valid reports whether s is valid UTF-8.
func Valid(s string) bool { return First(s) < 0 }

// First returns the byte offset of the first error of s, or -1.
func First(s string) int {
	for at := 0; at < len(s); {
		_, size := decode(s, at)
		if size == 0 {
			return at
		}
		at += size
	}
	return -1
}

// Decode returns the code point whose encoding begins at a byte offset of s, and the number of its bytes.
func Decode(s string, at int) (point, size int, e api.Errno) {
	if at < 0 || at >= len(s) {
		return 0, 0, api.ErrRange
	}
	point, size = decode(s, at)
	if size == 0 {
		return 0, 0, api.ErrText
	}
	return point, size, api.OK
}

// Encode returns the encoding of a code point.
func Encode(point int) (string, api.Errno) { return Text([]int{point}) }

// Points returns the code points of s.
func Points(s string) ([]int, api.Errno) {
	var points []int
	for at := 0; at < len(s); {
		point, size := decode(s, at)
		if size == 0 {
			return nil, api.ErrText
		}
		points = append(points, point)
		at += size
	}
	return points, api.OK
}

// Count returns the number of code points of s.
func Count(s string) (int, api.Errno) {
	if !Valid(s) {
		return 0, api.ErrText
	}
	count := 0
	for i := range len(s) {
		if !isFollowing(s[i]) {
			count++
		}
	}
	return count, api.OK
}

// Text returns the string with some code points.
func Text(points []int) (string, api.Errno) {
	var text []byte
	for _, point := range points {
		if !isPoint(point) {
			return "", api.ErrRange
		}
		text = encode(text, point)
	}
	return string(text), api.OK
}

// Lower replaces the uppercase ASCII letters of s by lowercase ones.
func Lower(s string) string { return shift(s, 'A', 'Z', 'a') }

// Upper replaces the lowercase ASCII letters of s by uppercase ones.
func Upper(s string) string { return shift(s, 'a', 'z', 'A') }

// shift replaces the bytes of s from first to last by those from to on.
func shift(s string, first, last, to byte) string {
	text := []byte(s)
	for i, b := range text {
		if b >= first && b <= last {
			text[i] = b - first + to
		}
	}
	return string(text)
}

// ToLatin converts UTF-8 to Latin-1.
func ToLatin(s string) (string, api.Errno) {
	points, e := Points(s)
	if e != api.OK {
		return "", e
	}
	text := make([]byte, len(points))
	for i, point := range points {
		if point >= latinPoints {
			return "", api.ErrByte
		}
		text[i] = byte(point)
	}
	return string(text), api.OK
}

// FromLatin converts Latin-1 to UTF-8.
func FromLatin(s string) string {
	var text []byte
	for i := range len(s) {
		text = encode(text, int(s[i]))
	}
	return string(text)
}

// ToASCII converts UTF-8 to ASCII with substitutes, and returns the number of code points that were replaced.
func ToASCII(s string) (out string, replaced int, e api.Errno) {
	points, e := Points(s)
	if e != api.OK {
		return "", 0, e
	}
	text := make([]byte, len(points))
	for i, point := range points {
		if point >= asciiPoints {
			point = Substitute
			replaced++
		}
		text[i] = byte(point)
	}
	return string(text), replaced, api.OK
}

// Cut returns the longest prefix of s that has at most a number of bytes and divides no code point.
func Cut(s string, most int) (string, api.Errno) {
	if most < 0 {
		return "", api.ErrRange
	}
	if !Valid(s) {
		return "", api.ErrText
	}
	if most >= len(s) {
		return s, api.OK
	}
	for isFollowing(s[most]) {
		most--
	}
	return s[:most], api.OK
}

// IsName reports whether s is a name.
func IsName(s string) bool {
	if s == "" || len(s) > api.MaxName || !isLetter(s[0]) {
		return false
	}
	for i := 1; i < len(s); i++ {
		if !isLetter(s[i]) && !isDigit(s[i]) && s[i] != '_' {
			return false
		}
	}
	return true
}

func isLetter(b byte) bool { return b >= 'a' && b <= 'z' }
func isDigit(b byte) bool  { return b >= '0' && b <= '9' }
