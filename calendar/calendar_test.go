package calendar_test

import (
	"math"
	"testing"
	"time"

	"manifold/api"
	"manifold/calendar"
)

// noDays are numbers of no days, noYears no years, and noTimes no times.
var (
	noDays  = []int{calendar.MinDay - 1, calendar.MaxDay + 1, math.MinInt, math.MaxInt}
	noYears = []int{0, -1, -4, -400, 10000, 10400, math.MinInt, math.MaxInt}
	noTimes = []int{calendar.MinMillis - 1, calendar.MaxMillis + 1, math.MinInt, math.MaxInt}
)

// moment returns the beginning of a day, as package time sees it.
func moment(days int) time.Time { return time.UnixMilli(int64(days) * calendar.DayMillis).UTC() }

// weekday returns the number of a day of the week, as package time sees it.
func weekday(m time.Time) int { return (int(m.Weekday())+6)%7 + 1 }

// eachDay calls f for each day that there is, until it returns false.
func eachDay(f func(days int, m time.Time) bool) {
	for days := calendar.MinDay; days <= calendar.MaxDay; days++ {
		if !f(days, moment(days)) {
			return
		}
	}
}

func TestTerms(t *testing.T) {
	for _, c := range [][2]int{
		{calendar.MinYear, 1}, {calendar.MaxYear, 9999}, {calendar.MinDay, -719162}, {calendar.MaxDay, 2932896},
		{calendar.DayMillis, 86400000}, {calendar.MinMillis, -719162 * 86400000}, {calendar.MaxMillis, 2932897*86400000 - 1},
	} {
		if c[0] != c[1] {
			t.Errorf("%d is not %d", c[0], c[1])
		}
	}
}

func TestP2_1Leap(t *testing.T) {
	leaps := 0
	for year := calendar.MinYear; year <= calendar.MaxYear; year++ {
		want := year%400 == 0 || year%4 == 0 && year%100 != 0
		if calendar.Leap(year) != want {
			t.Errorf("Leap(%d)", year)
		}
		if want {
			leaps++
		}
	}
	if leaps != 2424 {
		t.Errorf("%d leap years", leaps)
	}
	for _, year := range noYears {
		if calendar.Leap(year) {
			t.Errorf("Leap(%d)", year)
		}
	}
}

func TestP2_1MonthDays(t *testing.T) {
	for year := calendar.MinYear; year <= calendar.MaxYear; year++ {
		for month := 1; month <= 12; month++ {
			want := time.Date(year, time.Month(month+1), 0, 0, 0, 0, 0, time.UTC).Day()
			if n, e := calendar.MonthDays(year, month); n != want || e != api.OK {
				t.Fatalf("MonthDays(%d, %d) = %d, %d", year, month, n, e)
			}
		}
	}
	for _, year := range noYears {
		if n, e := calendar.MonthDays(year, 1); n != 0 || e != api.ErrDate {
			t.Errorf("MonthDays(%d, 1) = %d, %d", year, n, e)
		}
	}
	for _, month := range []int{0, -1, 13, math.MinInt, math.MaxInt} {
		if n, e := calendar.MonthDays(2000, month); n != 0 || e != api.ErrDate {
			t.Errorf("MonthDays(2000, %d) = %d, %d", month, n, e)
		}
	}
}

func TestP2_2Dates(t *testing.T) {
	eachDay(func(days int, m time.Time) bool {
		y, k, d, e := calendar.Civil(days)
		if y != m.Year() || k != int(m.Month()) || d != m.Day() || e != api.OK {
			t.Errorf("Civil(%d) = %d, %d, %d, %d", days, y, k, d, e)
			return false
		}
		if n, e := calendar.Days(m.Year(), int(m.Month()), m.Day()); n != days || e != api.OK {
			t.Errorf("Days(%v) = %d, %d; want %d", m, n, e, days)
			return false
		}
		return true
	})
}

func TestP2_2NoDates(t *testing.T) {
	for _, c := range [][3]int{
		{1900, 2, 29}, {2001, 2, 29}, {2100, 2, 29}, {2000, 2, 30}, {2000, 13, 1}, {2000, 0, 1}, {2000, -1, 1}, {0, 1, 1}, {10000, 1, 1}, {-1, 1, 1},
		{2001, 4, 31}, {2001, 6, 31}, {2001, 1, 32}, {2001, 4, 0}, {2001, 4, -1}, {2001, 12, 32}, {math.MaxInt, 1, 1}, {math.MinInt, 1, 1},
		{2001, math.MaxInt, 1}, {2001, math.MinInt, 1}, {2001, 1, math.MaxInt}, {2001, 1, math.MinInt},
	} {
		if n, e := calendar.Days(c[0], c[1], c[2]); n != 0 || e != api.ErrDate {
			t.Errorf("Days(%v) = %d, %d", c, n, e)
		}
	}
	for _, days := range noDays {
		if y, m, d, e := calendar.Civil(days); y != 0 || m != 0 || d != 0 || e != api.ErrRange {
			t.Errorf("Civil(%d) = %d, %d, %d, %d", days, y, m, d, e)
		}
	}
}

func TestP2_3Weeks(t *testing.T) {
	for _, c := range []struct{ days, weekday, year, week int }{
		{0, 4, 1970, 1}, {11016, 2, 2000, 9}, {10957, 6, 1999, 52}, {calendar.MinDay, 1, 1, 1}, {calendar.MinDay + 6, 7, 1, 1}, {calendar.MinDay + 7, 1, 1, 2},
		{calendar.MaxDay, 5, 9999, 52}, {calendar.MaxDay - 5, 7, 9999, 51}, {-1, 3, 1970, 1}, {18628, 5, 2020, 53}, {18630, 7, 2020, 53}, {18631, 1, 2021, 1},
	} {
		w, e := calendar.Weekday(c.days)
		y, k, f := calendar.Week(c.days)
		if w != c.weekday || e != api.OK || y != c.year || k != c.week || f != api.OK {
			t.Errorf("day %d: %d, %d; %d, %d, %d", c.days, w, e, y, k, f)
		}
	}
	eachDay(func(days int, m time.Time) bool {
		if w, e := calendar.Weekday(days); w != weekday(m) || e != api.OK {
			t.Errorf("Weekday(%d) = %d, %d", days, w, e)
			return false
		}
		year, week := m.ISOWeek()
		if y, k, e := calendar.Week(days); y != year || k != week || e != api.OK {
			t.Errorf("Week(%d) = %d, %d, %d; want %d, %d", days, y, k, e, year, week)
			return false
		}
		return true
	})
	for _, days := range noDays {
		w, e := calendar.Weekday(days)
		y, k, f := calendar.Week(days)
		if w != 0 || e != api.ErrRange || y != 0 || k != 0 || f != api.ErrRange {
			t.Errorf("day %d: %d, %d; %d, %d, %d", days, w, e, y, k, f)
		}
	}
}

func TestP2_4AddMonths(t *testing.T) {
	const months = 12 * calendar.MaxYear
	for _, c := range []struct {
		days, months, want int
		e                  api.Errno
	}{
		{11016, 0, 11016, api.OK}, {11016, 1, 11045, api.OK}, {11016, 12, 11381, api.OK}, {11016, -12, 10650, api.OK}, {11016, 48, 12477, api.OK},
		{10987, 1, 11016, api.OK}, {10987, 3, 11077, api.OK}, {10987, -2, 10925, api.OK}, {10987, -11, 10650, api.OK},
		{calendar.MinDay, months - 1, calendar.MaxDay - 30, api.OK}, {calendar.MinDay, months, 0, api.ErrRange}, {calendar.MinDay, -1, 0, api.ErrRange},
		{calendar.MaxDay, 1 - months, calendar.MinDay + 30, api.OK}, {calendar.MaxDay, -months, 0, api.ErrRange}, {calendar.MaxDay, 1, 0, api.ErrRange},
		{0, math.MaxInt, 0, api.ErrRange}, {0, math.MinInt, 0, api.ErrRange}, {calendar.MaxDay, math.MaxInt, 0, api.ErrRange}, {calendar.MinDay, math.MinInt, 0, api.ErrRange},
	} {
		if n, e := calendar.AddMonths(c.days, c.months); n != c.want || e != c.e {
			t.Errorf("AddMonths(%d, %d) = %d, %d; want %d, %d", c.days, c.months, n, e, c.want, c.e)
		}
	}
	for _, days := range noDays {
		if n, e := calendar.AddMonths(days, 0); n != 0 || e != api.ErrRange {
			t.Errorf("AddMonths(%d, 0) = %d, %d", days, n, e)
		}
	}
}

func TestP2_4AddMonthsAgreesWithTime(t *testing.T) {
	for days := calendar.MinDay; days <= calendar.MaxDay; days += 997 {
		m := moment(days)
		for months := -30; months <= 30; months++ {
			first := time.Date(m.Year(), m.Month()+time.Month(months), 1, 0, 0, 0, 0, time.UTC)
			last := first.AddDate(0, 1, -1).Day()
			want, f := int(first.UnixMilli()/calendar.DayMillis)+min(m.Day(), last)-1, api.OK
			if first.Year() < calendar.MinYear || first.Year() > calendar.MaxYear {
				want, f = 0, api.ErrRange
			}
			if n, e := calendar.AddMonths(days, months); n != want || e != f {
				t.Fatalf("AddMonths(%d, %d) = %d, %d; want %d, %d", days, months, n, e, want, f)
			}
		}
	}
}

func TestP2_6SplitAndJoin(t *testing.T) {
	for _, c := range [][3]int{
		{0, 0, 0}, {1, 0, 1}, {-1, -1, 86399999}, {86399999, 0, 86399999}, {86400000, 1, 0}, {-86400000, -1, 0}, {-86400001, -2, 86399999},
		{calendar.MinMillis, calendar.MinDay, 0}, {calendar.MaxMillis, calendar.MaxDay, 86399999}, {951782400000, 11016, 0},
	} {
		if d, r, e := calendar.Split(c[0]); d != c[1] || r != c[2] || e != api.OK {
			t.Errorf("Split(%d) = %d, %d, %d", c[0], d, r, e)
		}
		if n, e := calendar.Join(c[1], c[2]); n != c[0] || e != api.OK {
			t.Errorf("Join(%d, %d) = %d, %d", c[1], c[2], n, e)
		}
	}
	for _, n := range noTimes {
		if d, r, e := calendar.Split(n); d != 0 || r != 0 || e != api.ErrRange {
			t.Errorf("Split(%d) = %d, %d, %d", n, d, r, e)
		}
	}
	for _, days := range noDays {
		if n, e := calendar.Join(days, 0); n != 0 || e != api.ErrRange {
			t.Errorf("Join(%d, 0) = %d, %d", days, n, e)
		}
	}
	for _, rest := range []int{-1, calendar.DayMillis, math.MinInt, math.MaxInt} {
		if n, e := calendar.Join(0, rest); n != 0 || e != api.ErrRange {
			t.Errorf("Join(0, %d) = %d, %d", rest, n, e)
		}
	}
}

func TestP2_9NextDays(t *testing.T) {
	last, _ := calendar.Weekday(calendar.MinDay)
	number := calendar.MinDay
	for year := 1; year <= 1000; year++ {
		for month := 1; month <= 12; month++ {
			length, _ := calendar.MonthDays(year, month)
			for day := 1; day <= length; day++ {
				n, e := calendar.Days(year, month, day)
				w, f := calendar.Weekday(n)
				if n != number || e != api.OK || w != last || f != api.OK {
					t.Fatalf("%d-%d-%d is the day %d, %d; its weekday is %d, %d", year, month, day, n, e, w, f)
				}
				number, last = number+1, last%7+1
			}
		}
	}
}

func TestP2_9SplitAndJoinAreInverse(t *testing.T) {
	for n := calendar.MinMillis; n <= calendar.MaxMillis; n += 123456789*10 + 1 {
		d, r, e := calendar.Split(n)
		if m, f := calendar.Join(d, r); m != n || e != api.OK || f != api.OK || r < 0 || r >= calendar.DayMillis {
			t.Fatalf("Split(%d) = %d, %d, %d; Join: %d, %d", n, d, r, e, m, f)
		}
	}
}
