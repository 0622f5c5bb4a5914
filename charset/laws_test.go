package charset_test

import (
	"cmp"
	"slices"
	"strings"
	"testing"

	"manifold/api"
	"manifold/charset"
)

func TestP3_9AllPoints(t *testing.T) {
	last := ""
	for p := range charset.MaxPoint + 1 {
		if !isPoint(p) {
			continue
		}
		s, e := charset.Encode(p)
		if s != string(rune(p)) || e != api.OK {
			t.Fatalf("Encode(%x) = %x, %d", p, s, e)
		}
		if q, n, e := charset.Decode(s, 0); q != p || n != len(s) || e != api.OK {
			t.Fatalf("Decode(%x, 0) = %x, %d, %d", s, q, n, e)
		}
		if p > 0 && s <= last {
			t.Fatalf("%x does not stand behind %x", s, last)
		}
		last = s
	}
}

func TestP3_9PointsAndTextAreInverse(t *testing.T) {
	eachShort(func(s string) {
		l, e := charset.Points(s)
		if e != api.OK {
			return
		}
		if x, f := charset.Text(l); x != s || f != api.OK {
			t.Fatalf("Points(%x) = %x, whose text is %x, %d", s, l, x, f)
		}
	})
}

func TestP3_9LatinIsInverse(t *testing.T) {
	eachShort(func(s string) {
		if x, e := charset.ToLatin(charset.FromLatin(s)); x != s || e != api.OK {
			t.Fatalf("ToLatin(FromLatin(%x)) = %x, %d", s, x, e)
		}
		if x, e := charset.ToLatin(s); e == api.OK && charset.FromLatin(x) != s {
			t.Fatalf("ToLatin(%x) = %x, and back %x", s, x, charset.FromLatin(x))
		}
	})
}

func TestP3_9Order(t *testing.T) {
	points := []int{0, 'a', 0x7F, 0x80, 0x7FF, 0x800, 0xD7FF, 0xE000, 0xFFFF, 0x10000, 0x10FFFF}
	var lists [][]int
	for _, p := range points {
		lists = append(lists, []int{p})
		for _, q := range points {
			lists = append(lists, []int{p, q})
		}
	}
	for _, a := range lists {
		for _, b := range lists {
			s, _ := charset.Text(a)
			x, _ := charset.Text(b)
			if cmp.Compare(s, x) != slices.Compare(a, b) {
				t.Errorf("the order of %x and %x", a, b)
			}
		}
	}
}

func TestP3_9Cases(t *testing.T) {
	eachShort(func(s string) {
		lower, upper := charset.Lower(s), charset.Upper(s)
		if len(lower) != len(s) || len(upper) != len(s) || charset.Valid(lower) != charset.Valid(s) || charset.Valid(upper) != charset.Valid(s) {
			t.Fatalf("%x: %x, %x", s, lower, upper)
		}
	})
}

func TestP3_9Names(t *testing.T) {
	var visit func(s string)
	visit = func(s string) {
		if charset.IsName(s) && (!charset.Valid(s) || charset.Lower(s) != s) {
			t.Errorf("the name %q", s)
		}
		if len(s) < 3 {
			for i := range 256 {
				if strings.IndexByte("az09_AZ-.\x00\x7F\x80\xC3\xE9\xFF", byte(i)) >= 0 {
					visit(s + string([]byte{byte(i)}))
				}
			}
		}
	}
	visit("")
}
