package decimal_test

import (
	"regexp"
	"strings"
	"testing"

	"manifold/api"
	"manifold/decimal"
)

func TestP1_6Texts(t *testing.T) {
	for _, c := range []struct {
		n N
		s string
	}{
		{N{}, "0"}, {N{Scale: 1}, "0.0"}, {N{Scale: 2}, "0.00"}, {N{Scale: 12}, "0.000000000000"}, {N{Int: -5, Scale: 3}, "-0.005"},
		{N{Int: 12}, "12"}, {N{Int: -12}, "-12"}, {N{Int: -1250, Scale: 2}, "-12.50"}, {N{Int: 1250, Scale: 3}, "1.250"}, {N{Int: 100}, "100"},
		{N{Int: 1, Scale: 12}, "0.000000000001"}, {N{Int: 1000000000000, Scale: 12}, "1.000000000000"}, {N{Int: 10, Scale: 1}, "1.0"},
		{N{Int: api.MaxNumber}, "999999999999999"}, {N{Int: -api.MaxNumber}, "-999999999999999"},
		{N{Int: -api.MaxNumber, Scale: 12}, "-999.999999999999"}, {N{Int: -api.MaxNumber, Scale: 1}, "-99999999999999.9"},
	} {
		if s, e := decimal.Text(c.n); s != c.s || e != api.OK {
			t.Errorf("Text(%v) = %q, %d", c.n, s, e)
		}
		if n, e := decimal.Parse(c.s); n != c.n || e != api.OK {
			t.Errorf("Parse(%q) = %v, %d", c.s, n, e)
		}
	}
	for _, n := range invalid {
		if s, e := decimal.Text(n); s != "" || e != api.ErrRange {
			t.Errorf("Text(%v) = %q, %d", n, s, e)
		}
	}
}

func TestP1_6NoTexts(t *testing.T) {
	for _, c := range []struct {
		s string
		e api.Errno
	}{
		{"", api.ErrShort}, {"123456789012345.67", api.ErrLong}, {strings.Repeat("x", 18), api.ErrLong}, {strings.Repeat("x", 17), api.ErrSyntax},
		{strings.Repeat("0", 1000), api.ErrLong}, {"-0.00", api.ErrSyntax}, {"-0", api.ErrSyntax}, {".5", api.ErrSyntax}, {"-.5", api.ErrSyntax}, {"1.", api.ErrSyntax},
		{"-1.", api.ErrSyntax}, {".", api.ErrSyntax}, {"-", api.ErrSyntax}, {"--1", api.ErrSyntax}, {"+1", api.ErrSyntax}, {"01", api.ErrSyntax}, {"00", api.ErrSyntax},
		{"00.5", api.ErrSyntax}, {"-01", api.ErrSyntax}, {"1.2.3", api.ErrSyntax}, {"1..2", api.ErrSyntax}, {"1-", api.ErrSyntax}, {"1.-2", api.ErrSyntax}, {"1,5", api.ErrSyntax},
		{"1e5", api.ErrSyntax}, {" 1", api.ErrSyntax}, {"1 ", api.ErrSyntax}, {"1_0", api.ErrSyntax}, {"0x1", api.ErrSyntax}, {"a", api.ErrSyntax}, {"\x00", api.ErrSyntax},
		{"\xff", api.ErrSyntax}, {"1234567890123456", api.ErrSyntax}, {"1000000000000000", api.ErrSyntax}, {"-1000000000000000", api.ErrSyntax}, {"99999999999999999", api.ErrSyntax},
		{"1000.000000000000", api.ErrSyntax}, {"0.0000000000000", api.ErrSyntax}, {"1.0000000000000", api.ErrSyntax}, {"100000000000000.0", api.ErrSyntax},
		{"1:", api.ErrSyntax}, {"1/", api.ErrSyntax}, {"\u0661", api.ErrSyntax},
	} {
		if n, e := decimal.Parse(c.s); n != (N{}) || e != c.e {
			t.Errorf("Parse(%q) = %v, %d; want %d", c.s, n, e, c.e)
		}
	}
}

func TestP1_6AllShortTexts(t *testing.T) {
	form := regexp.MustCompile(`^-?(0|[1-9][0-9]*)(\.[0-9]+)?$`)
	zero := regexp.MustCompile(`^-[0.]+$`)
	var check func(s string)
	check = func(s string) {
		n, e := decimal.Parse(s)
		if form.MatchString(s) && !zero.MatchString(s) {
			if text, f := decimal.Text(n); e != api.OK || f != api.OK || text != s {
				t.Errorf("Parse(%q) = %v, %d with the text %q", s, n, e, text)
			}
		} else if s != "" && (e != api.ErrSyntax || n != N{}) {
			t.Errorf("Parse(%q) = %v, %d", s, n, e)
		}
		if len(s) < 6 {
			for _, c := range "-.019x" {
				check(s + string(c))
			}
		}
	}
	check("")
}

func TestP1_7TextsAreInverse(t *testing.T) {
	var scales []int
	for s := range api.MaxScale + 1 {
		scales = append(scales, s)
	}
	for _, n := range numbers(scales...) {
		s, e := decimal.Text(n)
		m, f := decimal.Parse(s)
		if e != api.OK || f != api.OK || m != n {
			t.Errorf("%v has the text %q, %d, which is that of %v, %d", n, s, e, m, f)
		}
	}
}
