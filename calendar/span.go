package calendar

import (
	"strconv"

	"manifold/api"
)

const (
	// longestSpan is the number of bytes up to which a text is read as a duration at all.
	longestSpan = 32
	// mostDigits is the number of digits of the days of api.MaxTime; more would only lead to numbers that are too great.
	mostDigits = 6
)

// units are the units of durations, from the greatest to the smallest one, with their milliseconds.
var units = [5]struct {
	name   string
	millis int
}{
	{"d", DayMillis},
	{"h", hourMillis},
	{"m", minuteMillis},
	{"s", secondMillis},
	{"ms", 1},
}

// SpanText returns the text of a duration in milliseconds.
func SpanText(millis int) (string, api.Errno) {
	if millis < 0 || millis > api.MaxTime {
		return "", api.ErrRange
	}
	if millis == 0 {
		return "0s", api.OK
	}
	text := ""
	for i := range units {
		if n := millis / units[i].millis; n > 0 {
			text += strconv.Itoa(n) + units[i].name
		}
		millis %= units[i].millis
	}
	return text, api.OK
}

// ParseSpan returns the duration with a text.
func ParseSpan(s string) (int, api.Errno) {
	if len(s) > longestSpan {
		return 0, api.ErrLong
	}
	millis := 0
	for rest := s; rest != ""; {
		part, behind, ok := cutSpan(rest)
		if !ok {
			return 0, api.ErrSyntax
		}
		millis += part
		rest = behind
	}
	// The parts may have been superfluous, too great or in the wrong order; only one text of a duration is its own.
	if text, e := SpanText(millis); e != api.OK || text != s {
		return 0, api.ErrSyntax
	}
	return millis, api.OK
}

// cutSpan cuts a number with its unit off the beginning of s, and returns its milliseconds.
func cutSpan(s string) (millis int, rest string, ok bool) {
	size := 0
	for size < len(s) && isDigit(s[size]) {
		size++
	}
	if size == 0 || size > mostDigits {
		return 0, "", false
	}
	n, rest, _ := cutNumber(s, size, "")
	unit, rest, ok := cutUnit(rest)
	return n * unit, rest, ok
}

// cutUnit cuts the name of a unit off the beginning of s, and returns its milliseconds. A name ends where the next number begins, so that m is not found in ms.
func cutUnit(s string) (millis int, rest string, ok bool) {
	size := 0
	for size < len(s) && !isDigit(s[size]) {
		size++
	}
	for i := range units {
		if units[i].name == s[:size] {
			return units[i].millis, s[size:], true
		}
	}
	return 0, "", false
}
