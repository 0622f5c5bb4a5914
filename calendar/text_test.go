package calendar_test

import (
	"math"
	"regexp"
	"strconv"
	"strings"
	"testing"
	"time"

	"manifold/api"
	"manifold/calendar"
)

func TestP2_5Texts(t *testing.T) {
	last := ""
	eachDay(func(days int, m time.Time) bool {
		want := m.Format("2006-01-02")
		s, e := calendar.Text(days)
		n, f := calendar.Parse(want)
		if s != want || e != api.OK || n != days || f != api.OK || s <= last {
			t.Errorf("day %d: %q, %d after %q; Parse(%q) = %d, %d", days, s, e, last, want, n, f)
			return false
		}
		last = s
		return true
	})
	for _, days := range noDays {
		if s, e := calendar.Text(days); s != "" || e != api.ErrRange {
			t.Errorf("Text(%d) = %q, %d", days, s, e)
		}
	}
}

func TestP2_5NoTexts(t *testing.T) {
	for s, want := range map[string]api.Errno{
		"": api.ErrSyntax, "2001": api.ErrSyntax, "2001-02-2": api.ErrSyntax, "2001-2-28": api.ErrSyntax, "2001-02-28 ": api.ErrSyntax, " 2001-02-28": api.ErrSyntax,
		"2001-02-028": api.ErrSyntax, "02001-02-28": api.ErrSyntax, "2001/02/28": api.ErrSyntax, "2001-02/28": api.ErrSyntax, "200102-28": api.ErrSyntax, "2001-0228": api.ErrSyntax, "20010228": api.ErrSyntax, "2001-02-28T": api.ErrSyntax,
		"-001-02-28": api.ErrSyntax, "+001-02-28": api.ErrSyntax, "2001-+2-28": api.ErrSyntax, "2001-02--8": api.ErrSyntax, "201-02-028": api.ErrSyntax, "2001-a2-28": api.ErrSyntax,
		"2001-02-2x": api.ErrSyntax, "x001-13-40": api.ErrSyntax, "2001-13-40x": api.ErrSyntax, "\xff001-02-28": api.ErrSyntax, "2001-02-2:": api.ErrSyntax, "2001-02-2/": api.ErrSyntax,
		"2001-02-29": api.ErrDate, "1900-02-29": api.ErrDate, "0000-01-01": api.ErrDate, "2001-00-01": api.ErrDate, "2001-13-01": api.ErrDate, "2001-01-00": api.ErrDate,
		"2001-04-31": api.ErrDate, "9999-99-99": api.ErrDate, "0000-00-00": api.ErrDate,
	} {
		if n, e := calendar.Parse(s); n != 0 || e != want {
			t.Errorf("Parse(%q) = %d, %d; want %d", s, n, e, want)
		}
	}
}

// timeText returns the text of a time, as package time sees it.
func timeText(millis int) string {
	m := time.UnixMilli(int64(millis)).UTC()
	if millis%1000 == 0 {
		return m.Format("2006-01-02T15:04:05Z")
	}
	return m.Format("2006-01-02T15:04:05.000Z")
}

func checkTime(t *testing.T, millis int) {
	t.Helper()
	want := timeText(millis)
	s, e := calendar.TimeText(millis)
	n, f := calendar.ParseTime(want)
	if s != want || e != api.OK || n != millis || f != api.OK {
		t.Fatalf("TimeText(%d) = %q, %d; ParseTime(%q) = %d, %d", millis, s, e, want, n, f)
	}
}

func TestP2_7TimeTexts(t *testing.T) {
	for n, want := range map[int]string{
		0: "1970-01-01T00:00:00Z", 1: "1970-01-01T00:00:00.001Z", -1: "1969-12-31T23:59:59.999Z", 10: "1970-01-01T00:00:00.010Z", 100: "1970-01-01T00:00:00.100Z",
		1000: "1970-01-01T00:00:01Z", 60000: "1970-01-01T00:01:00Z", 3600000: "1970-01-01T01:00:00Z", 951782400000: "2000-02-29T00:00:00Z",
		calendar.MinMillis: "0001-01-01T00:00:00Z", calendar.MaxMillis: "9999-12-31T23:59:59.999Z",
	} {
		if s, e := calendar.TimeText(n); s != want || e != api.OK {
			t.Errorf("TimeText(%d) = %q, %d", n, s, e)
		}
		checkTime(t, n)
	}
	for n := range 86400 {
		checkTime(t, n*1000+n%3)
	}
	for n := range 1000 {
		checkTime(t, 951782399000+n)
	}
	for n := calendar.MinMillis; n <= calendar.MaxMillis; n += 12345678901 {
		checkTime(t, n)
	}
	for _, n := range noTimes {
		if s, e := calendar.TimeText(n); s != "" || e != api.ErrRange {
			t.Errorf("TimeText(%d) = %q, %d", n, s, e)
		}
	}
}

func TestP2_7NoTimeTexts(t *testing.T) {
	for s, want := range map[string]api.Errno{
		"": api.ErrSyntax, "Z": api.ErrSyntax, "1970-01-01": api.ErrSyntax, "1970-01-01T00:00:00": api.ErrSyntax, "1970-01-01T00:00Z": api.ErrSyntax, "1970-01-01T00:00:00ZZ": api.ErrSyntax,
		"1970-01-01t00:00:00Z": api.ErrSyntax, "1970-01-01T00:00:00z": api.ErrSyntax, "1970-01-01 00:00:00Z": api.ErrSyntax, "1970-01-01T0:00:00Z": api.ErrSyntax, "1970-01-01T00:00:0Z": api.ErrSyntax,
		"1970-01-01T00:00:000Z": api.ErrSyntax, "1970-01-01T00-00-00Z": api.ErrSyntax, "1970-01-01T00:00:00.000Z": api.ErrSyntax, "1970-01-01T00:00:00.Z": api.ErrSyntax, "1970-01-01T00:00:00.1Z": api.ErrSyntax,
		"1970-01-01T00:00:00.12Z": api.ErrSyntax, "1970-01-01T00:00:00.1234Z": api.ErrSyntax, "1970-01-01T00:00:00.123": api.ErrSyntax, "1970-01-01T00:00:00.12aZ": api.ErrSyntax, "1970-01-01T00:00:00,123Z": api.ErrSyntax,
		"1970-01-01T00:00:00+00:00": api.ErrSyntax, "1970-01-01T-1:00:00Z": api.ErrSyntax, "1970-01-01T00:00:00Z ": api.ErrSyntax, " 1970-01-01T00:00:00Z": api.ErrSyntax, "1970-02-30T00:00:0xZ": api.ErrSyntax,
		"1970-02-30T25:00:00.000Z": api.ErrSyntax, "1970-02-30T00:00:00": api.ErrSyntax, "0000-00-00T99:99:99.12Z": api.ErrSyntax, "1970-1-01T00:00:00Z": api.ErrSyntax,
		"1970-01-01T0000:00Z": api.ErrSyntax, "1970-01-01T00:0000Z": api.ErrSyntax, "1970-01-0100:00:00Z": api.ErrSyntax, "197001-01T00:00:00Z": api.ErrSyntax, "1970-0101T00:00:00Z": api.ErrSyntax,
		"1970-01-01T24:00:00Z": api.ErrDate, "1970-01-01T00:60:00Z": api.ErrDate, "1970-01-01T00:00:60Z": api.ErrDate, "1970-01-01T99:00:00Z": api.ErrDate, "1970-01-01T23:59:60.999Z": api.ErrDate,
		"1970-02-30T00:00:00Z": api.ErrDate, "1970-02-30T00:00:00.001Z": api.ErrDate, "0000-01-01T00:00:00Z": api.ErrDate, "2001-02-29T00:00:00Z": api.ErrDate, "1970-13-01T00:00:00Z": api.ErrDate, "1970-01-00T00:00:00Z": api.ErrDate,
	} {
		if n, e := calendar.ParseTime(s); n != 0 || e != want {
			t.Errorf("ParseTime(%q) = %d, %d; want %d", s, n, e, want)
		}
	}
}

// spanText returns the text of a duration.
func spanText(millis int) string {
	s := ""
	for _, u := range []struct {
		name       string
		size, most int
	}{{"d", 86400000, math.MaxInt}, {"h", 3600000, 24}, {"m", 60000, 60}, {"s", 1000, 60}, {"ms", 1, 1000}} {
		if n := millis / u.size % u.most; n != 0 {
			s += strconv.Itoa(n) + u.name
		}
	}
	if s == "" {
		return "0s"
	}
	return s
}

func checkSpan(t *testing.T, millis int) {
	t.Helper()
	want := spanText(millis)
	s, e := calendar.SpanText(millis)
	n, f := calendar.ParseSpan(want)
	if s != want || e != api.OK || n != millis || f != api.OK {
		t.Fatalf("SpanText(%d) = %q, %d; ParseSpan(%q) = %d, %d", millis, s, e, want, n, f)
	}
}

func TestP2_8Spans(t *testing.T) {
	for n, want := range map[int]string{
		0: "0s", 1: "1ms", 5: "5ms", 999: "999ms", 1000: "1s", 1001: "1s1ms", 59999: "59s999ms", 60000: "1m", 60005: "1m5ms", 3599999: "59m59s999ms", 3600000: "1h",
		93784005: "1d2h3m4s5ms", 86400000: "1d", 86399999: "23h59m59s999ms", 864000000: "10d", 86400001: "1d1ms", 36000000: "10h", api.MaxTime: "203613d6h20m44s416ms",
	} {
		if s, e := calendar.SpanText(n); s != want || e != api.OK {
			t.Errorf("SpanText(%d) = %q, %d", n, s, e)
		}
		checkSpan(t, n)
	}
	for n := range 100000 {
		checkSpan(t, n*7)
		checkSpan(t, n*60000)
		checkSpan(t, n*175921860)
		checkSpan(t, api.MaxTime-n)
	}
	for _, n := range []int{-1, api.MaxTime + 1, math.MinInt, math.MaxInt} {
		if s, e := calendar.SpanText(n); s != "" || e != api.ErrRange {
			t.Errorf("SpanText(%d) = %q, %d", n, s, e)
		}
	}
}

func TestP2_8NoSpans(t *testing.T) {
	for s, want := range map[string]api.Errno{
		"": api.ErrSyntax, "1": api.ErrSyntax, "0": api.ErrSyntax, "s": api.ErrSyntax, "ms": api.ErrSyntax, "0ms": api.ErrSyntax, "0m": api.ErrSyntax, "0d": api.ErrSyntax, "00s": api.ErrSyntax,
		"01s": api.ErrSyntax, "60s": api.ErrSyntax, "60m": api.ErrSyntax, "24h": api.ErrSyntax, "1000ms": api.ErrSyntax, "1h1d": api.ErrSyntax, "1s1m": api.ErrSyntax, "1ms1s": api.ErrSyntax,
		"1s1s": api.ErrSyntax, "1d1d": api.ErrSyntax, "1d0h": api.ErrSyntax, "1m0s": api.ErrSyntax, "0d1h": api.ErrSyntax, "1s ": api.ErrSyntax, " 1s": api.ErrSyntax, "1 s": api.ErrSyntax, "1S": api.ErrSyntax,
		"-1s": api.ErrSyntax, "+1s": api.ErrSyntax, "1.5s": api.ErrSyntax, "1w": api.ErrSyntax, "1sm": api.ErrSyntax, "1mss": api.ErrSyntax, "1s1": api.ErrSyntax, "1\xff": api.ErrSyntax, "1dh": api.ErrSyntax,
		"203613d6h20m44s417ms": api.ErrSyntax, "203613d7h": api.ErrSyntax, "203614d": api.ErrSyntax, "1000000d": api.ErrSyntax, "99999999999999999999d": api.ErrSyntax, "18446744073709551617ms": api.ErrSyntax, "213503982334602d": api.ErrSyntax,
		"18446744073709551617d": api.ErrSyntax, strings.Repeat("9", 31) + "d": api.ErrSyntax, strings.Repeat("9", 32) + "d": api.ErrLong, strings.Repeat("x", 32): api.ErrSyntax, strings.Repeat("x", 33): api.ErrLong,
		"1d" + strings.Repeat("0", 30) + "s": api.ErrLong, strings.Repeat("1s", 16): api.ErrSyntax, strings.Repeat("1s", 17): api.ErrLong, strings.Repeat("1", 5000): api.ErrLong,
	} {
		if n, e := calendar.ParseSpan(s); n != 0 || e != want {
			t.Errorf("ParseSpan(%q) = %d, %d; want %d", s, n, e, want)
		}
	}
}

func TestP2_8AllShortSpans(t *testing.T) {
	form := regexp.MustCompile(`^([1-9][0-9]*d)?(([1-9]|1[0-9]|2[0-3])h)?([1-5]?[0-9]m)?([1-5]?[0-9]s)?([1-9][0-9]{0,2}ms)?$`)
	zero := regexp.MustCompile(`(^|[a-z])0`)
	var check func(s string)
	check = func(s string) {
		n, e := calendar.ParseSpan(s)
		if s == "0s" || s != "" && form.MatchString(s) && !zero.MatchString(s) {
			if e != api.OK || spanText(n) != s {
				t.Errorf("ParseSpan(%q) = %d, %d", s, n, e)
			}
		} else if n != 0 || e != api.ErrSyntax {
			t.Errorf("ParseSpan(%q) = %d, %d", s, n, e)
		}
		if len(s) < 6 {
			for _, c := range "0126dhms" {
				check(s + string(c))
			}
		}
	}
	check("")
}

func TestP2_9TimeTextsAreOrdered(t *testing.T) {
	last := ""
	for n := calendar.MinMillis; n <= calendar.MaxMillis; n += 9876543210 {
		// The times with full seconds have texts of another length.
		if n%1000 == 0 {
			n++
		}
		s, e := calendar.TimeText(n)
		if e != api.OK || s <= last {
			t.Fatalf("%q does not stand behind %q", s, last)
		}
		last = s
	}
}
