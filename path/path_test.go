package path_test

import (
	"math"
	"reflect"
	"regexp"
	"slices"
	"strconv"
	"strings"
	"testing"

	"manifold/api"
	"manifold/path"
)

type P = path.Part

func name(s string) P { return P{Kind: path.Field, Name: s} }
func of(s string) P   { return P{Kind: path.Case, Name: s} }
func at(n int) P      { return P{Kind: path.Index, Index: n} }

var each = P{Kind: path.All}

// mustParse returns the path with a text.
func mustParse(t *testing.T, s string) []P {
	t.Helper()
	l, e := path.Parse(s)
	if e != api.OK {
		t.Fatalf("Parse(%q) = %d", s, e)
	}
	return l
}

func TestTerms(t *testing.T) {
	if path.MaxParts != 16 || path.MaxBytes != 200 || path.Field != 1 || path.Index != 2 || path.All != 3 || path.Case != 4 {
		t.Error("the constants")
	}
}

// long returns a path of 6 fields whose text has a number of bytes, of 166 to 197.
func long(n int) []P {
	l := slices.Repeat([]P{name(strings.Repeat("a", 32))}, 5)
	return append(l, name(strings.Repeat("b", n-5*33)))
}

func TestP5_1CheckAndText(t *testing.T) {
	for _, c := range []struct {
		l []P
		s string
	}{
		{[]P{name("a")}, "a"}, {[]P{name("a"), name("b_1")}, "a.b_1"}, {[]P{name("a"), at(0), at(255), each, of("c"), name("d")}, "a[0][255][*]?c.d"},
		{[]P{name("body"), name("lines"), at(12), name("item"), each, of("card")}, "body.lines[12].item[*]?card"}, {[]P{name(strings.Repeat("z", 32))}, strings.Repeat("z", 32)},
		{slices.Repeat([]P{name("a")}, 16), "a" + strings.Repeat(".a", 15)}, {append([]P{name("a")}, slices.Repeat([]P{at(100)}, 15)...), "a" + strings.Repeat("[100]", 15)},
		{append(long(197), name("ab")), strings.Repeat(strings.Repeat("a", 32)+".", 5) + strings.Repeat("b", 32) + ".ab"}, {append(long(197), each), strings.Repeat(strings.Repeat("a", 32)+".", 5) + strings.Repeat("b", 32) + "[*]"}, {append(long(196), at(10)), strings.Repeat(strings.Repeat("a", 32)+".", 5) + strings.Repeat("b", 31) + "[10]"},
	} {
		if e := path.Check(c.l); e != api.OK {
			t.Errorf("Check(%v) = %d", c.l, e)
		}
		if s, e := path.Text(c.l); s != c.s || e != api.OK {
			t.Errorf("Text(%v) = %q, %d", c.l, s, e)
		}
		if l, e := path.Parse(c.s); !slices.Equal(l, c.l) || e != api.OK {
			t.Errorf("Parse(%q) = %v, %d", c.s, l, e)
		}
	}
}

// none are lists of parts that are no paths.
func none() [][]P {
	a := name("a")
	return [][]P{
		nil, {}, {each}, {at(0)}, {of("a")}, {{}}, {each, a}, {name("")}, {name("A")}, {name("1")}, {name("a.b")}, {name(strings.Repeat("z", 33))}, {a, name("")}, {a, of("")}, {a, of("a?")}, {a, of(strings.Repeat("z", 33))},
		{{Kind: path.Field, Name: "a", Index: 1}}, {a, {Kind: path.Case, Name: "a", Index: 1}}, {a, {Kind: path.Index, Index: 1, Name: "a"}}, {a, {Kind: path.All, Index: 1}}, {a, {Kind: path.All, Name: "a"}}, {a, at(-1)}, {a, at(256)}, {a, at(math.MaxInt)}, {a, at(math.MinInt)},
		{a, {}}, {a, {Kind: 5}}, {a, {Kind: 5, Name: "a"}}, {a, {Kind: -1}}, {a, {Kind: math.MaxInt}}, {a, {Kind: math.MinInt}}, {{Kind: 0, Name: "a"}}, {{Kind: 5, Name: "a"}}, slices.Repeat([]P{a}, 17), append(slices.Repeat([]P{a}, 16), P{}), slices.Repeat([]P{a}, 100000),
		append(long(197), name("abc")), append(long(197), at(10)), append(long(196), of("abcd")), append(long(197), each, name("a")),
	}
}

func TestP5_1None(t *testing.T) {
	record := api.Value{Kind: api.Record}
	for _, l := range none() {
		if e := path.Check(l); e != api.ErrFormat {
			t.Errorf("Check(%v) = %d", l, e)
		}
		if s, e := path.Text(l); s != "" || e != api.ErrFormat {
			t.Errorf("Text(%v) = %q, %d", l, s, e)
		}
		for _, v := range []api.Value{{}, {Kind: api.Int}, record} {
			if x, e := path.Get(v, l); !reflect.DeepEqual(x, api.Value{}) || e != api.ErrFormat {
				t.Errorf("Get(%v) = %v, %d", l, x, e)
			}
			if x, e := path.Find(v, l); len(x) != 0 || e != api.ErrFormat {
				t.Errorf("Find(%v) = %v, %d", l, x, e)
			}
			if x, e := path.Set(v, l, record); !reflect.DeepEqual(x, api.Value{}) || e != api.ErrFormat {
				t.Errorf("Set(%v) = %v, %d", l, x, e)
			}
			if x, e := path.Delete(v, l); !reflect.DeepEqual(x, api.Value{}) || e != api.ErrFormat {
				t.Errorf("Delete(%v) = %v, %d", l, x, e)
			}
		}
	}
}

func TestP5_1Parse(t *testing.T) {
	name32 := strings.Repeat("z", 32)
	for _, c := range []struct {
		s string
		e api.Errno
	}{
		{"", api.ErrShort}, {strings.Repeat("a.", 99) + "ab", api.ErrLimit}, {strings.Repeat("a", 200), api.ErrSyntax}, {strings.Repeat("a", 201), api.ErrLong}, {strings.Repeat("!", 201), api.ErrLong}, {strings.Repeat("a.", 100) + "a", api.ErrLong}, {strings.Repeat("x", 1<<20), api.ErrLong},
		{".", api.ErrSyntax}, {".a", api.ErrSyntax}, {"a.", api.ErrSyntax}, {"a..b", api.ErrSyntax}, {"a?", api.ErrSyntax}, {"?a", api.ErrSyntax}, {"a.?b", api.ErrSyntax}, {"a?.b", api.ErrSyntax}, {"[0]", api.ErrSyntax}, {"[*]", api.ErrSyntax}, {"a.[0]", api.ErrSyntax}, {"a[0].", api.ErrSyntax},
		{"a[", api.ErrSyntax}, {"a[]", api.ErrSyntax}, {"a[0", api.ErrSyntax}, {"a[*", api.ErrSyntax}, {"a]", api.ErrSyntax}, {"a[0]]", api.ErrSyntax}, {"a[[0]]", api.ErrSyntax}, {"a[0]b", api.ErrSyntax}, {"a[*]b", api.ErrSyntax}, {"a[**]", api.ErrSyntax}, {"a[0*]", api.ErrSyntax}, {"a[ 0]", api.ErrSyntax},
		{"a[00]", api.ErrSyntax}, {"a[01]", api.ErrSyntax}, {"a[+1]", api.ErrSyntax}, {"a[-1]", api.ErrSyntax}, {"a[-0]", api.ErrSyntax}, {"a[0x1]", api.ErrSyntax}, {"a[1_0]", api.ErrSyntax}, {"a[256]", api.ErrSyntax}, {"a[1000]", api.ErrSyntax}, {"a[99999999999999999999]", api.ErrSyntax}, {"a[18446744073709551616]", api.ErrSyntax},
		{"A", api.ErrSyntax}, {"1", api.ErrSyntax}, {"_a", api.ErrSyntax}, {"a.1b", api.ErrSyntax}, {"a b", api.ErrSyntax}, {"a\x00", api.ErrSyntax}, {"\xC3\xA9", api.ErrSyntax}, {"a.\xFF", api.ErrSyntax}, {name32 + "a", api.ErrSyntax}, {"a?" + name32 + "a", api.ErrSyntax}, {"a." + name32 + "a", api.ErrSyntax},
		{"a" + strings.Repeat("[0]", 15), api.OK}, {"a" + strings.Repeat("[0]", 16), api.ErrLimit}, {"a" + strings.Repeat("[0]", 16) + ".", api.ErrSyntax}, {"a" + strings.Repeat(".a", 40) + "[", api.ErrSyntax}, {"a[0]", api.OK}, {"a[9]", api.OK}, {"a[10]", api.OK}, {"a[255]", api.OK}, {name32 + "." + name32 + "?" + name32, api.OK},
	} {
		l, e := path.Parse(c.s)
		if e != c.e || e != api.OK && len(l) != 0 {
			t.Errorf("Parse(%.50q) = %v, %d, want %d", c.s, l, e, c.e)
		}
	}
}

// eachText calls f for all strings of at most a number of the tokens.
func eachText(tokens []string, most int, f func(s string)) {
	var visit func(s string, left int)
	visit = func(s string, left int) {
		f(s)
		if left > 0 {
			for _, token := range tokens {
				visit(s+token, left-1)
			}
		}
	}
	visit("", most)
}

func TestP5_1AllShortTexts(t *testing.T) {
	part := `(?:[.?][a-z][a-z0-9_]{0,31}|\[\*\]|\[(?:0|[1-9][0-9]{0,2})\])`
	form, index := regexp.MustCompile(`^[a-z][a-z0-9_]{0,31}`+part+`*$`), regexp.MustCompile(`\[[0-9]+\]`)
	check := func(s string) {
		want := form.MatchString(s)
		for _, x := range index.FindAllString(s, -1) {
			n, _ := strconv.Atoi(x[1 : len(x)-1])
			want = want && n < 256
		}
		l, e := path.Parse(s)
		if (e == api.OK) != want || !want && s != "" && e != api.ErrSyntax {
			t.Fatalf("Parse(%q) = %v, %d", s, l, e)
		}
		if e == api.OK {
			if back, f := path.Text(l); back != s || f != api.OK {
				t.Fatalf("Text(Parse(%q)) = %q, %d", s, back, f)
			}
		}
	}
	eachText([]string{"a", "1", "_", ".", "?", "[", "]", "*", "0", "-"}, 5, check)
	eachText([]string{"a", ".b", "?c1", "[*]", "[0]", "[", "]", "25", "6", "5", "1"}, 5, check)
}

func TestP5_6Covers(t *testing.T) {
	a := name("a")
	for i, c := range []struct {
		a, b []P
		want bool
	}{
		{nil, nil, true}, {nil, []P{a}, true}, {[]P{a}, nil, false}, {[]P{a}, []P{a}, true}, {[]P{a}, []P{name("b")}, false}, {[]P{a}, []P{a, a}, true}, {[]P{a, a}, []P{a}, false}, {[]P{a, at(1)}, []P{a, at(1), a}, true}, {[]P{a, at(1)}, []P{a, at(2)}, false},
		{[]P{a, each}, []P{a, at(2)}, true}, {[]P{a, each}, []P{a, each}, true}, {[]P{a, at(2)}, []P{a, each}, false}, {[]P{a, each, name("b")}, []P{a, at(3), name("b"), name("c")}, true}, {[]P{a, each, name("b")}, []P{a, at(3), name("c")}, false}, {[]P{a, each}, []P{a}, false},
		{[]P{a, each}, []P{a, name("b")}, false}, {[]P{a, each}, []P{a, of("b")}, false}, {[]P{each}, []P{at(1000)}, true}, {[]P{each}, []P{{Kind: path.Index, Index: -1, Name: "x"}}, true}, {[]P{{Kind: path.All, Index: 1}}, []P{at(1)}, false}, {[]P{{Kind: path.All, Name: "x"}}, []P{at(1)}, false}, {[]P{{Kind: path.All, Index: 1}}, []P{{Kind: path.All, Index: 1}}, true}, {[]P{each}, []P{{Kind: path.All, Index: 1}}, false},
		{[]P{a}, []P{{Kind: path.Case, Name: "a"}}, false}, {[]P{a}, []P{{Kind: path.Field, Name: "a", Index: 1}}, false}, {[]P{{}}, []P{{}}, true}, {[]P{{}}, []P{at(0)}, false}, {slices.Repeat([]P{each}, 100), slices.Repeat([]P{at(9)}, 100), true},
	} {
		if path.Covers(c.a, c.b) != c.want {
			t.Errorf("%d: Covers(%v, %v) = %t", i, c.a, c.b, !c.want)
		}
	}
}
