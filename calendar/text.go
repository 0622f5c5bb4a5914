package calendar

import (
	"strconv"
	"strings"

	"manifold/api"
)

const (
	hourMillis   = 60 * minuteMillis
	minuteMillis = 60 * secondMillis
	secondMillis = 1000
)

// pad returns the text of a number that is not negative, with leading zeros up to a number of digits.
func pad(n, size int) string {
	s := strconv.Itoa(n)
	return strings.Repeat("0", max(0, size-len(s))) + s
}

// cutNumber cuts a number of exactly size digits, and what has to stand behind it, off the beginning of s.
func cutNumber(s string, size int, behind string) (n int, rest string, ok bool) {
	if len(s) < size {
		return 0, "", false
	}
	for i := range size {
		if !isDigit(s[i]) {
			return 0, "", false
		}
		n = n*10 + int(s[i]-'0')
	}
	rest, ok = strings.CutPrefix(s[size:], behind)
	return n, rest, ok
}

func isDigit(b byte) bool { return b >= '0' && b <= '9' }

// Text returns the text of a day.
func Text(days int) (string, api.Errno) {
	if !isDay(days) {
		return "", api.ErrRange
	}
	return dayText(days), api.OK
}

func dayText(days int) string {
	year, month, day := date(days)
	return pad(year, 4) + "-" + pad(month, 2) + "-" + pad(day, 2)
}

// Parse returns the day with a text.
func Parse(s string) (int, api.Errno) {
	year, month, day, rest, ok := cutDate(s)
	if !ok || rest != "" {
		return 0, api.ErrSyntax
	}
	return Days(year, month, day)
}

// cutDate cuts the form of a date off the beginning of s, whether there is such a date or not.
func cutDate(s string) (year, month, day int, rest string, ok bool) {
	year, rest, hasYear := cutNumber(s, 4, "-")
	month, rest, hasMonth := cutNumber(rest, 2, "-")
	day, rest, hasDay := cutNumber(rest, 2, "")
	return year, month, day, rest, hasYear && hasMonth && hasDay
}

// TimeText returns the text of a time.
func TimeText(millis int) (string, api.Errno) {
	if !isTime(millis) {
		return "", api.ErrRange
	}
	days, rest := divide(millis)
	return dayText(days) + "T" + clockText(rest) + "Z", api.OK
}

// clockText returns the text of the milliseconds since the beginning of a day.
func clockText(millis int) string {
	hour, minute, second := millis/hourMillis, millis/minuteMillis%60, millis/secondMillis%60
	text := pad(hour, 2) + ":" + pad(minute, 2) + ":" + pad(second, 2)
	if part := millis % secondMillis; part != 0 {
		text += "." + pad(part, 3)
	}
	return text
}

// ParseTime returns the time with a text.
func ParseTime(s string) (int, api.Errno) {
	year, month, day, rest, hasDate := cutDate(s)
	rest, hasT := strings.CutPrefix(rest, "T")
	hour, minute, second, rest, hasClock := cutClock(rest)
	part, rest, hasPart := cutPart(rest)
	if !hasDate || !hasT || !hasClock || !hasPart || rest != "Z" {
		return 0, api.ErrSyntax
	}
	days, e := Days(year, month, day)
	if e != api.OK || hour > 23 || minute > 59 || second > 59 {
		return 0, api.ErrDate
	}
	return Join(days, hour*hourMillis+minute*minuteMillis+second*secondMillis+part)
}

// cutClock cuts the form of an hour, a minute and a second off the beginning of s.
func cutClock(s string) (hour, minute, second int, rest string, ok bool) {
	hour, rest, hasHour := cutNumber(s, 2, ":")
	minute, rest, hasMinute := cutNumber(rest, 2, ":")
	second, rest, hasSecond := cutNumber(rest, 2, "")
	return hour, minute, second, rest, hasHour && hasMinute && hasSecond
}

// cutPart cuts the milliseconds off the beginning of s; without a period, there are 0 of them, which must not be written.
func cutPart(s string) (millis int, rest string, ok bool) {
	behind, found := strings.CutPrefix(s, ".")
	if !found {
		return 0, s, true
	}
	millis, rest, ok = cutNumber(behind, 3, "")
	return millis, rest, ok && millis != 0
}
