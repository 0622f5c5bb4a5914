// Package calendar converts between days, civil dates and milliseconds, and reads and writes their texts (layer 2, see shared/doc/02-calendar.md).
package calendar

import "manifold/api"

// The limits of years, days and milliseconds.
const (
	MinYear   = 1
	MaxYear   = 9999
	MinDay    = -719162 // 0001-01-01
	MaxDay    = 2932896 // 9999-12-31
	DayMillis = 86400000
	MinMillis = MinDay * DayMillis
	MaxMillis = (MaxDay+1)*DayMillis - 1
)

const (
	february     = 2
	monthsOfYear = 12
	// After a cycle of 400 years, the leap years repeat.
	cycleYears = 400
	cycleDays  = 146097
)

// lengths are the numbers of days of the months of a year that is no leap year.
var lengths = [monthsOfYear]int{31, 28, 31, 30, 31, 30, 31, 31, 30, 31, 30, 31}

func isYear(year int) bool   { return year >= MinYear && year <= MaxYear }
func isDay(days int) bool    { return days >= MinDay && days <= MaxDay }
func isTime(millis int) bool { return millis >= MinMillis && millis <= MaxMillis }

// Leap reports whether a year is a leap year.
func Leap(year int) bool {
	return isYear(year) && year%4 == 0 && (year%100 != 0 || year%400 == 0)
}

// MonthDays returns the number of days of a month.
func MonthDays(year, month int) (int, api.Errno) {
	if !isYear(year) || month < 1 || month > monthsOfYear {
		return 0, api.ErrDate
	}
	return monthLength(year, month), api.OK
}

func monthLength(year, month int) int {
	if month == february && Leap(year) {
		return lengths[month-1] + 1
	}
	return lengths[month-1]
}

// Days returns the number of days from 1970-01-01 to a date.
func Days(year, month, day int) (int, api.Errno) {
	length, e := MonthDays(year, month)
	if e != api.OK || day < 1 || day > length {
		return 0, api.ErrDate
	}
	days := firstDay(year)
	for m := 1; m < month; m++ {
		days += monthLength(year, m)
	}
	return days + day - 1, api.OK
}

// firstDay returns the number of the first day of a year, or of the year after MaxYear.
func firstDay(year int) int {
	before := year - MinYear
	return MinDay + before*365 + before/4 - before/100 + before/400
}

// Civil returns the date of a day.
func Civil(days int) (year, month, day int, e api.Errno) {
	if !isDay(days) {
		return 0, 0, 0, api.ErrRange
	}
	year, month, day = date(days)
	return year, month, day, api.OK
}

// date returns the date of a day that there is.
func date(days int) (year, month, day int) {
	year = yearOf(days)
	rest := days - firstDay(year)
	month = 1
	for month < monthsOfYear && rest >= monthLength(year, month) {
		rest -= monthLength(year, month)
		month++
	}
	return year, month, rest + 1
}

// yearOf returns the year in which a day lies.
func yearOf(days int) int {
	// Leap years never let a year begin a whole day later than the average length of years does, so this leads to the year or to the one before it.
	year := (days-MinDay)*cycleYears/cycleDays + MinYear
	if days >= firstDay(year+1) {
		year++
	}
	return year
}

// Weekday returns the day of the week: 1 for Monday to 7 for Sunday.
func Weekday(days int) (int, api.Errno) {
	if !isDay(days) {
		return 0, api.ErrRange
	}
	return weekday(days), api.OK
}

// weekday counts from MinDay, which is a Monday, so that the remainder is not negative.
func weekday(days int) int { return (days-MinDay)%7 + 1 }

// Week returns the number of the week in which a day lies, and the year to which the week belongs.
func Week(days int) (year, week int, e api.Errno) {
	if !isDay(days) {
		return 0, 0, api.ErrRange
	}
	thursday := days - weekday(days) + 4
	year = yearOf(thursday)
	return year, (thursday-firstDay(year))/7 + 1, api.OK
}

// AddMonths returns the day that is a number of months later.
func AddMonths(days, months int) (int, api.Errno) {
	if !isDay(days) {
		return 0, api.ErrRange
	}
	year, month, day := date(days)
	// The months are counted from the first one of MinYear. They are compared before they are added, since the sum might overflow.
	from, last := (year-MinYear)*monthsOfYear+month-1, (MaxYear-MinYear+1)*monthsOfYear-1
	if months < -from || months > last-from {
		return 0, api.ErrRange
	}
	to := from + months
	year, month = to/monthsOfYear+MinYear, to%monthsOfYear+1
	return Days(year, month, min(day, monthLength(year, month)))
}

// Split returns the day of a time and the milliseconds since its beginning.
func Split(millis int) (days, rest int, e api.Errno) {
	if !isTime(millis) {
		return 0, 0, api.ErrRange
	}
	days, rest = divide(millis)
	return days, rest, api.OK
}

// divide returns the parts of a time; counted from MinMillis, it is not negative, so that the quotient is rounded down.
func divide(millis int) (days, rest int) {
	since := millis - MinMillis
	return since/DayMillis + MinDay, since % DayMillis
}

// Join returns the time with a day and milliseconds since its beginning.
func Join(days, rest int) (int, api.Errno) {
	if !isDay(days) || rest < 0 || rest >= DayMillis {
		return 0, api.ErrRange
	}
	return days*DayMillis + rest, api.OK
}
