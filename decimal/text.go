package decimal

import (
	"strconv"
	"strings"

	"manifold/api"
)

// longest is the length of the longest text: a hyphen, 15 digits and a period.
const longest = 17

// Text returns the text of a number.
func Text(n api.Number) (string, api.Errno) {
	if e := Check(n); e != api.OK {
		return "", e
	}
	sign := ""
	if n.Int < 0 {
		sign = "-"
	}
	digits := strconv.FormatUint(magnitude(n.Int), 10)
	if n.Scale == 0 {
		return sign + digits, api.OK
	}
	if lack := n.Scale + 1 - len(digits); lack > 0 {
		digits = strings.Repeat("0", lack) + digits
	}
	point := len(digits) - n.Scale
	return sign + digits[:point] + "." + digits[point:], api.OK
}

// Parse returns the number with a text.
func Parse(s string) (api.Number, api.Errno) {
	if s == "" {
		return api.Number{}, api.ErrShort
	}
	if len(s) > longest {
		return api.Number{}, api.ErrLong
	}
	n, ok := read(s)
	if !ok {
		return api.Number{}, api.ErrSyntax
	}
	// What read accepts may have superfluous zeros or signs, or lack digits; only one text of a number is its own.
	if text, e := Text(n); e != api.OK || text != s {
		return api.Number{}, api.ErrSyntax
	}
	return n, api.OK
}

// read returns the number that a text of at most longest bytes denotes, whether the number is valid or not.
func read(s string) (n api.Number, ok bool) {
	rest, negative := strings.CutPrefix(s, "-")
	whole, fraction, _ := strings.Cut(rest, ".")
	digits := whole + fraction
	for i := range len(digits) {
		if digits[i] < '0' || digits[i] > '9' {
			return api.Number{}, false
		}
		n.Int = n.Int*10 + int(digits[i]-'0')
	}
	if negative {
		n.Int = -n.Int
	}
	n.Scale = len(fraction)
	return n, true
}
