// Package quoted reads what the notations of packages literal and lexer have in common between quotation marks: escapes and hexadecimal digits.
package quoted

import (
	"strings"

	"manifold/api"
	"manifold/charset"
)

const (
	hexDigits = "0123456789abcdef"
	// mostDigits is the greatest number of digits of an escape.
	mostDigits = 6
)

// IsControl reports whether a byte cannot stand in a string as it is.
func IsControl(c byte) bool { return c < ' ' || c == '\x7F' }

// Escape returns what the escape means that begins with the backslash at the beginning of a string, and its number of bytes. The error is ErrSyntax if there is none, and ErrText if its number is no code point.
func Escape(s string) (meant string, size int, e api.Errno) {
	if len(s) < 2 {
		return "", 0, api.ErrSyntax
	}
	switch s[1] {
	case '"', '\\':
		return s[1:2], 2, api.OK
	case 'n':
		return "\n", 2, api.OK
	case 'r':
		return "\r", 2, api.OK
	case 't':
		return "\t", 2, api.OK
	}
	inside, opened := strings.CutPrefix(s, `\u{`)
	point, digits := leadingHex(inside)
	if !opened || digits == 0 || digits > mostDigits || !strings.HasPrefix(inside[digits:], "}") {
		return "", 0, api.ErrSyntax
	}
	meant, e = charset.Encode(point)
	if e != api.OK {
		return "", 0, api.ErrText
	}
	return meant, len(`\u{}`) + digits, api.OK
}

// leadingHex returns the number that the hexadecimal digits at the beginning of a string denote, and how many they are; it looks at no more than at one that is too many.
func leadingHex(s string) (n, digits int) {
	for digits < len(s) && digits <= mostDigits {
		d := hexDigit(s[digits])
		if d < 0 {
			break
		}
		n = n<<4 | d
		digits++
	}
	return n, digits
}

// hexDigit returns the value of a hexadecimal digit, or -1.
func hexDigit(c byte) int {
	if c >= 'A' && c <= 'F' {
		c += 'a' - 'A'
	}
	return strings.IndexByte(hexDigits, c)
}

// Bytes returns the bytes that pairs of hexadecimal digits denote, up to the first quotation mark of a string, and the offset of this mark. Otherwise it returns the offset of the error: ErrSyntax at what cannot stand there, ErrTruncated at the end if there is no quotation mark.
func Bytes(s string) (meant string, at int, e api.Errno) {
	var text strings.Builder
	high := -1 // the first digit of a byte whose second one has not come yet
	for at := range len(s) {
		d := hexDigit(s[at])
		switch {
		case s[at] == '"' && high < 0:
			return text.String(), at, api.OK
		case d < 0:
			return "", at, api.ErrSyntax
		case high < 0:
			high = d
		default:
			text.WriteByte(byte(high<<4 | d))
			high = -1
		}
	}
	return "", len(s), api.ErrTruncated
}
