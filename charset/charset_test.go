package charset_test

import (
	"math"
	"slices"
	"strings"
	"testing"
	"unicode/utf8"

	"manifold/api"
	"manifold/charset"
)

// mixed has encodings of one, two and three bytes: a, é and the sign of the euro; all has also one of four bytes.
const (
	mixed = "a\xC3\xA9\xE2\x82\xAC"
	all   = mixed + "\xF0\x9F\x98\x80z"
)

// bytes are the bytes at which the forms of encodings differ.
var bytes = []byte{
	0x00, 0x41, 0x7F, 0x80, 0x8F, 0x90, 0x9F, 0xA0, 0xBF, 0xC0, 0xC1, 0xC2, 0xDF, 0xE0, 0xE1, 0xEC,
	0xED, 0xEE, 0xEF, 0xF0, 0xF1, 0xF3, 0xF4, 0xF5, 0xF7, 0xF8, 0xFB, 0xFC, 0xFE, 0xFF,
}

// firstError returns the first error of a string, as package utf8 sees it.
func firstError(s string) int {
	for at := 0; at < len(s); {
		r, size := utf8.DecodeRuneInString(s[at:])
		if r == utf8.RuneError && size <= 1 {
			return at
		}
		at += size
	}
	return -1
}

// eachShort calls f for all strings of at most 4 of the bytes.
func eachShort(f func(s string)) {
	var visit func(s string)
	visit = func(s string) {
		f(s)
		if len(s) < 4 {
			for _, b := range bytes {
				visit(s + string([]byte{b}))
			}
		}
	}
	visit("")
}

func isPoint(n int) bool { return n >= 0 && n <= 0x10FFFF && (n < 0xD800 || n > 0xDFFF) }

func TestTerms(t *testing.T) {
	if charset.MaxPoint != 0x10FFFF || charset.FirstSurrogate != 0xD800 || charset.LastSurrogate != 0xDFFF || charset.Substitute != '?' {
		t.Error("the constants")
	}
}

func TestP3_1ValidAndFirst(t *testing.T) {
	for _, c := range []struct {
		s     string
		first int
	}{
		{"", -1}, {mixed, -1}, {all, -1}, {"\x00", -1}, {"a\xC3", 1}, {"\xC0\x80", 0}, {"\xC1\xBF", 0}, {"\xC2\x80", -1}, {"\xED\xA0\x80", 0}, {"\xED\xBF\xBF", 0},
		{"\xED\x9F\xBF", -1}, {"\xEE\x80\x80", -1}, {"\xF4\x8F\xBF\xBF", -1}, {"\xF4\x90\x80\x80", 0}, {"ab\x80", 2}, {"\xE2\x82a", 0}, {"\xE0\x9F\xBF", 0}, {"\xE0\xA0\x80", -1},
		{"\xF0\x8F\xBF\xBF", 0}, {"\xF0\x90\x80\x80", -1}, {"\xF8\x88\x80\x80\x80", 0}, {"\xFF", 0}, {mixed + "\xE2\x82", 6}, {mixed + "\x80" + mixed, 6}, {"a\xFFb\xFF", 1},
		{strings.Repeat(mixed, 1000) + "\xC3", 6000}, {strings.Repeat("x", 100000), -1},
	} {
		if n := charset.First(c.s); n != c.first {
			t.Errorf("First(%x) = %d, want %d", c.s, n, c.first)
		}
		if charset.Valid(c.s) != (c.first < 0) {
			t.Errorf("Valid(%x)", c.s)
		}
	}
	eachShort(func(s string) {
		if charset.First(s) != firstError(s) || charset.Valid(s) != utf8.ValidString(s) {
			t.Fatalf("First(%x) = %d, Valid = %t", s, charset.First(s), charset.Valid(s))
		}
	})
}

func TestP3_2Decode(t *testing.T) {
	for _, c := range []struct {
		s               string
		at, point, size int
		e               api.Errno
	}{
		{mixed, 0, 0x61, 1, api.OK}, {mixed, 1, 0xE9, 2, api.OK}, {mixed, 2, 0, 0, api.ErrText}, {mixed, 3, 0x20AC, 3, api.OK}, {mixed, 4, 0, 0, api.ErrText},
		{mixed, 5, 0, 0, api.ErrText}, {mixed, 6, 0, 0, api.ErrRange}, {mixed, -1, 0, 0, api.ErrRange}, {mixed, math.MaxInt, 0, 0, api.ErrRange}, {mixed, math.MinInt, 0, 0, api.ErrRange},
		{"", 0, 0, 0, api.ErrRange}, {"\x00", 0, 0, 1, api.OK}, {"\xFF\x80a", 2, 'a', 1, api.OK}, {"\xFF\xC3\xA9\xFF", 1, 0xE9, 2, api.OK}, {all, 6, 0x1F600, 4, api.OK},
		{"a\xC3", 1, 0, 0, api.ErrText}, {"\xED\xA0\x80", 0, 0, 0, api.ErrText}, {"\xE2\x82", 0, 0, 0, api.ErrText}, {"\xF0\x9F\x98", 0, 0, 0, api.ErrText},
	} {
		if p, n, e := charset.Decode(c.s, c.at); p != c.point || n != c.size || e != c.e {
			t.Errorf("Decode(%x, %d) = %x, %d, %d", c.s, c.at, p, n, e)
		}
	}
	eachShort(func(s string) {
		if s == "" {
			return
		}
		r, size := utf8.DecodeRuneInString(s)
		point, want := int(r), api.OK
		if r == utf8.RuneError && size == 1 {
			point, size, want = 0, 0, api.ErrText
		}
		if p, n, e := charset.Decode(s, 0); p != point || n != size || e != want {
			t.Fatalf("Decode(%x, 0) = %x, %d, %d", s, p, n, e)
		}
	})
}

func TestP3_2Encode(t *testing.T) {
	for _, c := range []struct {
		point int
		s     string
	}{
		{0, "\x00"}, {0x7F, "\x7F"}, {0x80, "\xC2\x80"}, {0x7FF, "\xDF\xBF"}, {0x800, "\xE0\xA0\x80"}, {0xD7FF, "\xED\x9F\xBF"}, {0xE000, "\xEE\x80\x80"},
		{0xFFFF, "\xEF\xBF\xBF"}, {0x10000, "\xF0\x90\x80\x80"}, {0x10FFFF, "\xF4\x8F\xBF\xBF"},
	} {
		if s, e := charset.Encode(c.point); s != c.s || e != api.OK {
			t.Errorf("Encode(%x) = %x, %d", c.point, s, e)
		}
	}
	for _, p := range []int{-1, -0x80, 0xD800, 0xDBFF, 0xDC00, 0xDFFF, 0x110000, 1 << 21, 1 << 32, 1<<32 + 'a', math.MaxInt, math.MinInt} {
		if s, e := charset.Encode(p); s != "" || e != api.ErrRange {
			t.Errorf("Encode(%x) = %x, %d", p, s, e)
		}
	}
}

func TestP3_3PointsAndText(t *testing.T) {
	for _, c := range []struct {
		s string
		l []int
	}{{"", nil}, {mixed, []int{0x61, 0xE9, 0x20AC}}, {all, []int{0x61, 0xE9, 0x20AC, 0x1F600, 'z'}}, {"\x00\x00", []int{0, 0}}} {
		if l, e := charset.Points(c.s); !slices.Equal(l, c.l) || e != api.OK {
			t.Errorf("Points(%x) = %x, %d", c.s, l, e)
		}
		if n, e := charset.Count(c.s); n != len(c.l) || e != api.OK {
			t.Errorf("Count(%x) = %d, %d", c.s, n, e)
		}
		if s, e := charset.Text(c.l); s != c.s || e != api.OK {
			t.Errorf("Text(%x) = %x, %d", c.l, s, e)
		}
	}
	for _, s := range []string{"\x80", "a\xC3", mixed + "\xFF", "\xFF" + mixed, "\xED\xA0\x80"} {
		if l, e := charset.Points(s); len(l) != 0 || e != api.ErrText {
			t.Errorf("Points(%x) = %x, %d", s, l, e)
		}
		if n, e := charset.Count(s); n != 0 || e != api.ErrText {
			t.Errorf("Count(%x) = %d, %d", s, n, e)
		}
	}
	for _, l := range [][]int{{-1}, {0x61, 0xDFFF}, {0xD800, 0xDC00}, {0x110000, 0x61}, {0x61, 0x61, math.MaxInt}, {math.MinInt}, {1<<32 + 'a'}} {
		if s, e := charset.Text(l); s != "" || e != api.ErrRange {
			t.Errorf("Text(%x) = %x, %d", l, s, e)
		}
	}
	eachShort(func(s string) {
		n, e := charset.Count(s)
		l, f := charset.Points(s)
		want, h := utf8.RuneCountInString(s), api.OK
		if !utf8.ValidString(s) {
			want, h = 0, api.ErrText
		}
		if n != want || e != h || len(l) != want || f != h {
			t.Fatalf("Count(%x) = %d, %d; Points %x, %d", s, n, e, l, f)
		}
	})
}

func TestP3_4Cases(t *testing.T) {
	for _, c := range [][3]string{
		{"", "", ""}, {"aBZ[\xC3\x89\xFF", "abz[\xC3\x89\xFF", "ABZ[\xC3\x89\xFF"}, {"azB{\xC3\xA9", "azb{\xC3\xA9", "AZB{\xC3\xA9"},
		{"@AZ[`az{", "@az[`az{", "@AZ[`AZ{"}, {"0-9_\x00", "0-9_\x00", "0-9_\x00"}, {"\xC0\x80Ab", "\xC0\x80ab", "\xC0\x80AB"},
	} {
		if s := charset.Lower(c[0]); s != c[1] {
			t.Errorf("Lower(%x) = %x", c[0], s)
		}
		if s := charset.Upper(c[0]); s != c[2] {
			t.Errorf("Upper(%x) = %x", c[0], s)
		}
	}
	for i := range 256 {
		b := byte(i)
		lower, upper := b, b
		if strings.IndexByte("ABCDEFGHIJKLMNOPQRSTUVWXYZ", b) >= 0 {
			lower = b + 32
		}
		if strings.IndexByte("abcdefghijklmnopqrstuvwxyz", b) >= 0 {
			upper = b - 32
		}
		s := string([]byte{'x', b})
		if charset.Lower(s) != string([]byte{'x', lower}) || charset.Upper(s) != string([]byte{'X', upper}) {
			t.Errorf("%x: %x, %x", s, charset.Lower(s), charset.Upper(s))
		}
	}
}

func TestP3_5Latin(t *testing.T) {
	for _, c := range []struct {
		s, out string
		e      api.Errno
	}{
		{"", "", api.OK}, {"a\xC3\xA9", "a\xE9", api.OK}, {"\x00\x7F\xC2\x80\xC3\xBF", "\x00\x7F\x80\xFF", api.OK}, {"\xC4\x80", "", api.ErrByte}, {mixed, "", api.ErrByte}, {all, "", api.ErrByte},
		{mixed + "\xFF", "", api.ErrText}, {"\xFF" + mixed, "", api.ErrText}, {"\xE9", "", api.ErrText}, {"a\xC3", "", api.ErrText}, {"\xF0\x9F\x98\x80", "", api.ErrByte},
	} {
		if s, e := charset.ToLatin(c.s); s != c.out || e != c.e {
			t.Errorf("ToLatin(%x) = %x, %d", c.s, s, e)
		}
	}
	for i := range 0x300 {
		want, f := "", api.ErrByte
		if i < 256 {
			want, f = string([]byte{byte(i)}), api.OK
		}
		if s, e := charset.ToLatin(string(rune(i))); s != want || e != f {
			t.Errorf("ToLatin of %x is %x, %d", i, s, e)
		}
	}
	for _, c := range [][2]string{{"", ""}, {"a\xE9\x80", "a\xC3\xA9\xC2\x80"}, {"\x00\x7F\xFF", "\x00\x7F\xC3\xBF"}, {"\xC3\xA9", "\xC3\x83\xC2\xA9"}} {
		if s := charset.FromLatin(c[0]); s != c[1] {
			t.Errorf("FromLatin(%x) = %x", c[0], s)
		}
	}
	for i := range 256 {
		if s := charset.FromLatin(string([]byte{byte(i)})); s != string(rune(i)) {
			t.Errorf("FromLatin of %x is %x", i, s)
		}
	}
}

func TestP3_6ASCII(t *testing.T) {
	for _, c := range []struct {
		s, out   string
		replaced int
		e        api.Errno
	}{
		{"", "", 0, api.OK}, {"abc", "abc", 0, api.OK}, {mixed, "a??", 2, api.OK}, {all, "a???z", 3, api.OK}, {"??", "??", 0, api.OK}, {"\x00\x7F\xC2\x80", "\x00\x7F?", 1, api.OK},
		{"\xFF", "", 0, api.ErrText}, {mixed + "\xC3", "", 0, api.ErrText}, {"\x80" + mixed, "", 0, api.ErrText},
	} {
		if s, n, e := charset.ToASCII(c.s); s != c.out || n != c.replaced || e != c.e {
			t.Errorf("ToASCII(%x) = %x, %d, %d", c.s, s, n, e)
		}
	}
}

func TestP3_7Cut(t *testing.T) {
	for _, c := range []struct {
		s    string
		most int
		out  string
		e    api.Errno
	}{
		{mixed, 0, "", api.OK}, {mixed, 1, "a", api.OK}, {mixed, 2, "a", api.OK}, {mixed, 3, "a\xC3\xA9", api.OK}, {mixed, 5, "a\xC3\xA9", api.OK}, {mixed, 6, mixed, api.OK},
		{mixed, 100, mixed, api.OK}, {mixed, math.MaxInt, mixed, api.OK}, {"", 0, "", api.OK}, {"", 5, "", api.OK}, {"\xF0\x9F\x98\x80", 3, "", api.OK}, {"\xF0\x9F\x98\x80", 4, "\xF0\x9F\x98\x80", api.OK},
		{mixed, -1, "", api.ErrRange}, {"\xFF", -1, "", api.ErrRange}, {mixed, math.MinInt, "", api.ErrRange}, {"a\x80", 1, "", api.ErrText}, {"\xFF", 0, "", api.ErrText}, {"a\xC3", 5, "", api.ErrText},
	} {
		if s, e := charset.Cut(c.s, c.most); s != c.out || e != c.e {
			t.Errorf("Cut(%x, %d) = %x, %d", c.s, c.most, s, e)
		}
	}
	for most := range len(all) + 2 {
		want := all[:min(most, len(all))]
		for !utf8.ValidString(want) {
			want = want[:len(want)-1]
		}
		if s, e := charset.Cut(all, most); s != want || e != api.OK {
			t.Errorf("Cut(%x, %d) = %x, %d", all, most, s, e)
		}
	}
}

func TestP3_8IsName(t *testing.T) {
	for s, want := range map[string]bool{
		"a": true, "z": true, "az09_": true, "order_line2": true, "a__": true, "abcdefghijklmnopqrstuvwxyz_01234": true, strings.Repeat("a", 32): true,
		"abcdefghijklmnopqrstuvwxyz_012345": false, strings.Repeat("a", 33): false, strings.Repeat("a", 10000): false, "": false, "_": false, "_a": false, "1": false, "1a": false, "A": false, "Ab": false,
		"aB": false, "a.b": false, "a-b": false, "a b": false, " a": false, "a ": false, "a\n": false, "a\x00": false, "\xC3\xA9": false, "a\xC3\xA9": false, "a\xFF": false,
	} {
		if charset.IsName(s) != want {
			t.Errorf("IsName(%q)", s)
		}
	}
	for i := range 256 {
		b := byte(i)
		letter := b >= 'a' && b <= 'z'
		other := b >= '0' && b <= '9' || b == '_'
		if charset.IsName(string([]byte{b})) != letter || charset.IsName(string([]byte{'a', b})) != (letter || other) || charset.IsName(string([]byte{'a', b, 'z'})) != (letter || other) {
			t.Errorf("IsName with %x", b)
		}
	}
}
