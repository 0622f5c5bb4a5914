package predicate_test

import (
	"strings"
	"testing"

	"manifold/api"
	"manifold/expr"
	"manifold/fit"
	"manifold/formula"
	"manifold/literal"
	"manifold/predicate"
	"manifold/schema"
	"manifold/value"
)

type (
	V = api.Value
	E = api.Expr
	D = predicate.Demand
)

// outcomes are the letters of the outcomes in the tests.
var outcomes = map[byte]int{'T': predicate.True, 'F': predicate.False, 'X': predicate.Fails}

func typed(t testing.TB, s string) api.Type {
	t.Helper()
	x, at, e := literal.ParseType(s)
	if e != api.OK {
		t.Fatalf("ParseType(%q): %d at %d", s, e, at)
	}
	return x
}

func condition(t testing.TB, s string) E {
	t.Helper()
	x, line, column, e := formula.Parse(s)
	if e != api.OK {
		t.Fatalf("Parse(%q): %d at %d, %d", s, e, line, column)
	}
	return x
}

// demands returns the demands in a text: conditions behind the letters of their outcomes, with semicolons between them.
func demands(t testing.TB, s string) []D {
	t.Helper()
	var l []D
	for part := range strings.SplitSeq(s, "; ") {
		if part != "" {
			l = append(l, D{Expr: condition(t, part[2:]), Outcome: outcomes[part[0]]})
		}
	}
	return l
}

func conditions(t testing.TB, l ...string) []E {
	t.Helper()
	var out []E
	for _, s := range l {
		out = append(out, condition(t, s))
	}
	return out
}

// outcome returns the outcome of a condition in an environment.
func outcome(e E, env V) int {
	is, failure := expr.Condition(e, env)
	switch {
	case failure != api.OK:
		return predicate.Fails
	case is:
		return predicate.True
	}
	return predicate.False
}

// expectWitness checks that a witness is an environment in which demands are met.
func expectWitness(t testing.TB, env api.Type, l []D, w V) {
	t.Helper()
	if !fit.Fits(env, w) {
		t.Errorf("the witness %v has the misfits %v", w, fit.Misfits(env, w))
	}
	for i, d := range l {
		if got := outcome(d.Expr, w); got != d.Outcome {
			t.Errorf("the witness %v has the outcome %d of the condition %d, want %d", w, got, i, d.Outcome)
		}
	}
}

// expectAnswer checks what Possible answers.
func expectAnswer(t testing.TB, env api.Type, l []D, want int) {
	t.Helper()
	answer, w, e := predicate.Possible(env, l)
	if answer != want || e != api.OK || value.IsNull(w) != (answer != predicate.Yes) {
		t.Errorf("Possible = %d, %v, %d, want %d", answer, w, e, want)
	}
	if answer == predicate.Yes {
		expectWitness(t, env, l, w)
	}
}

const exampleText = `record(
	1 n: int(0..9), 2 d: decimal(2, -1.50..3.00), 3 b: bool, 4 w: text("a" | "bb" | "c"), 5 note?: text(0..3), 6 one: text(0..1), 7 raw: bytes(1..2),
	8 day: date("2000-01-01".."2000-01-31"), 9 at: time("2000-01-01T00:00:00Z".."2000-01-01T00:00:01Z"),
	10 v: variant(1 card: bool, 2 cash: int(0..9), 3 gift: record(1 text?: text("x" | "y"))), 11 single: variant(1 only: record(1 x?: int(1..3), 2 y: bool)),
	12 o?: record(1 p: int(1..3), 2 q?: bool), 13 f: record(1 g?: int(0..5), 2 h: variant(1 s: bool, 2 t: bool)) = {g: 4, h: t(true)}, 14 l: list(1..3, int(0..3)), 15 none: text(0..0), 16 big: int(-999999999999999..999999999999999), 17 m: int(0..9))`

func TestP20_2Possible(t *testing.T) {
	env := typed(t, exampleText)
	const yes, no, unknown = predicate.Yes, predicate.No, predicate.Unknown
	for s, want := range map[string]int{
		"": yes, "T true": yes, "F true": no, "X true": no, "T false": no, "F false": yes, "X false": no, "F not false": no, "T not false": yes,
		// Numbers: of Ints, of Decimals, with constants of other scales on both sides.
		"T n > 5; T n < 7": yes, "T n > 5; T n < 6": no, "T n > 5; F n >= 6": no, "T n < 0": no, "T n > 9": no, "F n <= 9": no, "F n >= 0": no, "T n = 9": yes, "T n = 10": no, "T n = -1": no, "X n = 3": no, "X n > 5": no, "T 5 < n; T 7 > n": yes, "T 5 < n; T 6 > n": no, "T 5 <= n; T 5 >= n; F 5 = n": no, "T 6 <= n; T 5 >= n": no, "T 5 != n; T n >= 5; T n <= 5": no, "T n != 0; T n != 1; T n != 2; T n != 3; T n != 4; T n != 5; T n != 6; T n != 7; T n != 8": yes, "T n != 0; T n != 1; T n != 2; T n != 3; T n != 4; T n != 5; T n != 6; T n != 7; T n != 8; T n != 9": no,
		"T n < 0.5": yes, "T n < 0.5; T n != 0": no, "T n > 0.5; T n < 1.000": no, "T n > 0.5; T n <= 1.000": yes, "T n = 1.5": no, "F n = 1.5": yes, "T n = 2.00": yes, "T n = 2d; F n = 2": no, "T n >= 8.999999999999; F n = 9": no,
		"T d < -1.49; F d = -1.5": no, "T d <= -1.50": yes, "T d < -1.5": no, "T d > 2.99; T d < 3": no, "T d >= 2.995; F d = 3": no, "T d > 1.231; T d < 1.239": no, "T d > 1.230; T d < 1.241": yes, "T d = 3": yes, "T d = 3.001": no, "T d > 0; T d < 0.01": no, "T d in (0.001, 4, 5)": no, "T d in (0.001, 1.5, 5); F d = 1.50": no,
		"T big > 999999999999998; T big != 999999999999999": no, "T big < -999999999999998": yes, "T big < -999999999999999": no, "T big = 999.999999999999": no, "T big > 999.999999999999; T big < 1000.5; F big = 1000": no, "T n > 999999999999999": no, "T n < -999999999999999": no, "T big < 0.000000000001; T big >= 0; F big = 0": no,
		// Bools, dates and times.
		"T b": yes, "F b": yes, "X b": no, "T b; F b": no, "T b; T b = false": no, "T b < true; T b": no, "T b >= false": yes, "F b >= false": no, "T b > false; F b": no, "T b != true; F b": yes, "T false = b; F b = false": no, "T b in (true, false)": yes, "F b in (true, false)": no,
		`T day < date "2000-01-02"; F day = date "2000-01-01"`: no, `T day > date "2000-01-31"`: no, `T day in (date "1999-12-31", date "2000-01-31")`: yes, `T at > time "2000-01-01T00:00:00.999Z"; T at != time "2000-01-01T00:00:01Z"`: no, `T at >= time "2000-01-01T00:00:00.999Z"; T at != time "2000-01-01T00:00:01Z"`: yes, `T at < time "1970-01-01T00:00:00Z"`: no,
		// Texts with words are ordered bytewise; of others, and of bytes, it matters only whether they are equal.
		`T w < "b"; F w = "a"`: no, `T w > "a"; T w < "c"`: yes, `T w > "bb"; F w = "c"`: no, `T w = "b"`: no, `F w in ("a", "bb", "c")`: no, `F w in ("a", "c")`: yes, `T "b" < w; T w < "bc"`: yes, `T w >= ""`: yes, `F w >= ""`: no, `T w <= "a"; F w < "aa"`: no,
		`T one = "ab"`: no, `T one = "é"`: no, `T one = ""; T one = "a"`: no, `F one = ""; F one = "a"`: yes, `T one != ""; T one in ("", "a"); F one = "a"`: no, `T note = "é"`: yes, `T note = "éé"`: no, `T note = "abcd"`: no, `T none = ""`: yes, `T none != ""`: no, `T raw = x""`: no, `T raw = x"00"; T raw != x"0000"`: yes, `T raw = x"000000"`: no, `T raw in (x"", x"ff00"); F raw = x"ff00"`: no,
		// Absent fields.
		`T note = "a"`: yes, `F note = "a"`: yes, `X note = "a"`: yes, `X note != "a"`: yes, `X not note = "a"`: yes, `X has(note) and note = "a"`: no, `X note = "a" and has(note)`: yes, `T note = "a"; F has(note)`: no, `X note = "a"; T has(note)`: no, `X note = "a"; F note = "b"`: no, `F has(note)`: yes, `T has(note)`: yes, `X has(note)`: no, `X note in ("a", "b")`: yes, `T has(n)`: yes, `F has(n)`: no, `X has(n)`: no, `X not has(note) or note = "a"`: no, `T not has(note) or note = "a"; F note = "a"`: no,
		"T o.p > 2": yes, "F o.p > 2": yes, "X o.p > 2": yes, "X o.p > 2; T has(o)": no, "X o.q; T has(o)": yes, "X o.q; T has(o.q)": no, "T o.q; X o.p = 1": no, "F has(o.q); F has(o)": yes, "F has(o.q); T o.p = 2": yes, "T has(o.q); F has(o)": no, "T has(o); F has(o.p)": no, "F has(o.p); F has(o)": yes,
		// Variants.
		"T has(v?card); T has(v?cash)": no, "F has(v?card); T v?cash = 4": yes, "X v?card; X v?cash = 1": yes, "X v?card; X v?cash = 1; F has(v?gift)": no, "F has(v?card); F has(v?cash); F has(v?gift.text)": yes, `X v?gift.text = "x"; T has(v?gift)`: yes, `X v?gift.text = "x"; T has(v?gift.text)`: no, "X v?card; T has(v?card)": no, "T v?card; F v?card": no, "X v?cash = 3; X v?gift.text = \"x\"": yes,
		"F has(single?only)": no, "T has(single?only)": yes, "X single?only.y": no, "X single?only.x = 1": yes, "T single?only.x = 2; F has(single?only.x)": no, "T single?only.x > 3": no,
		// Defaulted fields are always there, whatever their default is.
		"F has(f)": no, "X f.g = 4": yes, "T f.g = 5; T f.h?s": yes, "T f.g = 4; F f.h?t": yes, "F has(f.g); T has(f.h?t)": yes, "T f.h?s; T f.h?t": no, "T f.g > 5": no,
		// Operations.
		"T n < 3 and b": yes, "F n < 3 and b; T n = 1; T b": no, "F n < 3 and b; T n = 1; F b": yes, "F n < 3 and note = \"a\"; T n = 3; F has(note)": yes, "F note = \"a\" and n < 3; F has(note)": no, "X note = \"a\" and n < 3; T n = 3": yes, "X n < 3 and note = \"a\"; T n = 3": no, "T n < 3 or note = \"a\"; F has(note); T n = 2": yes, "T note = \"a\" or n < 3; F has(note)": no, "F n < 0 or not n = 4": yes, "F n < 0 or not n = 4; F n = 4": no, "X n < 3 or note = \"a\"; T n >= 3": yes, "X n < 3 or note = \"a\"; T n < 3": no, "T not (n < 3 or n > 5) and n != 4; T n = 5": yes, "T not (n < 3 or n > 5) and n != 4; T n = 4": no,
		// Opaque parts.
		"T note < \"b\"": unknown, "F note < \"b\"": unknown, "X note < \"b\"": unknown, "T note < \"b\"; T n < 0": no, "T one < \"b\"; T n < 1": unknown, "T n = m": unknown, "T n = m; T n = 3": unknown, "T n = m; T n > 9": no, "T n = m or n = 3": unknown, "T n = 3 or n = m": yes, "T n = m or n > 9": unknown, "T n > 9 or n = m": unknown, "F n = m or n = 3": unknown, "F n = m and n > 9": unknown, "F n > 9 and n = m": yes, "T n > 9 and n = m": no, "X n > 9 and n = m": no, "T n + 1 > 5": unknown, "T 1 = 1": unknown, "F 1 = 1": unknown, "T n in (1, m)": unknown, "T 1 in (n, 2)": unknown, "T l[0] = 1": unknown, "F has(l[2])": unknown, "T has(l[0])": unknown, "T has(l)": yes, "F has(l)": no, "X not (n = m)": unknown, "T b = b": unknown, "T if(b, true, true)": unknown, "T b else false": unknown, "T none <= \"\"": unknown, "T w < w": unknown, "T w > \"c\" and n = m": no,
	} {
		t.Run(s, func(t *testing.T) { expectAnswer(t, env, demands(t, s), want) })
	}
}

func TestP20_2WitnessIsLeastOtherwise(t *testing.T) {
	env := typed(t, exampleText)
	for s, want := range map[string]string{
		"T n > 5; T n < 7":              "n: 6",
		"T has(note)":                   `note: ""`,
		`T note in ("b", "aa")`:         `note: "aa"`,
		"T v?cash > 3":                  "v: cash(4)",
		"F has(v?card)":                 "v: cash(0)",
		"T has(v?gift.text)":            `v: gift({text: "x"})`,
		"T has(o.q)":                    "o: {p: 1, q: false}",
		"T single?only.x > 1":           "single: only({x: 2, y: false})",
		"T has(f.h?s)":                  "f: {g: 4, h: s(false)}",
		"F has(f.g)":                    "f: {h: t(true)}",
		"T d > 1.239; T raw != x\"00\"": "d: 1.24",
	} {
		l := demands(t, s)
		_, w, e := predicate.Possible(env, l)
		text, failure := literal.Text(w)
		if e != api.OK || failure != api.OK || !strings.Contains(text, want) {
			t.Errorf("%s: %s, %d, want %s", s, text, e, want)
		}
		expectWitness(t, env, l, w)
	}
}

// repeated returns a demand a number of times.
func repeated(t testing.TB, s string, n int) []D {
	t.Helper()
	var l []D
	for range n {
		l = append(l, demands(t, s)...)
	}
	return l
}

func TestP20_1Cases(t *testing.T) {
	env := typed(t, exampleText)
	for s, want := range map[string]int{
		"": 1, "T true": 1, "F true": 0, "X true": 0, "T n < 0": 1, "F n < 0": 1, "X n < 0": 0, "T 3 = n": 1, "T b": 1, "X b": 0,
		`T note = "a"`: 1, `F note = "a"`: 1, `X note = "a"`: 1, "T has(note)": 1, "F has(note)": 1, "X has(note)": 0, "F has(n)": 0, "T o.q": 1, "X o.q": 2, "F has(o.q)": 2, "F has(o.p)": 1, `X v?gift.text = "x"`: 2, "X single?only.x = 1": 1, "F has(single?only)": 0, "X f.h?s": 1, "F has(f)": 0, "F has(f.g)": 1, "T has(f.g)": 1,
		"T n = m": 1, "F n = m": 1, "X n = m": 1, `X one < "a"`: 1, "X l[0] = 1": 1, "F has(l[0])": 1, "X has(l[0])": 1, "X not n = m": 1,
		// The Fails of not, and, or; contradictions are counted, too.
		"F not n < 3": 1, "X not o.q": 2, "T n < 3 and n > 5": 1, "F n < 3 and n > 5": 2, "X n < 3 and o.q": 2, "X o.q and n < 3": 2, "X o.q and o.q": 4, "F o.q and o.q": 2, "T n < 3 or n > 5": 2, "F n < 3 or n > 5": 1, "X o.q or o.q": 4, "T o.q or o.q": 2, "F o.q or o.q": 1, "X has(o) and o.q": 2, "T has(o.q) or n < 3": 3, "F has(o.q) or n < 3": 2, "X false and o.q": 0, "F false and o.q": 1, "F true and o.q": 1, "X true or o.q": 0, "X false or o.q": 2,
		"T n < 3 or n > 5; T n < 3 or n > 5": 4, "F has(o.q); F has(o.q); X o.q": 8, "T n < 3 or n > 5; F true": 0, "T n < 3; T n < 3": 1,
	} {
		if n, e := predicate.Cases(env, demands(t, s)); n != want || e != api.OK {
			t.Errorf("Cases(%s) = %d, %d, want %d", s, n, e, want)
		}
	}
	for count, want := range map[int]int{8: 256, 9: 512, 10: predicate.MaxCases + 1, 63: predicate.MaxCases + 1, 64: predicate.MaxCases + 1} {
		l := repeated(t, "T n = 3 or n = 7", count)
		if n, e := predicate.Cases(env, l); n != want || e != api.OK {
			t.Errorf("%d: Cases = %d, %d, want %d", count, n, e, want)
		}
		if n, e := predicate.Cases(env, append(l[1:], demands(t, "F true")...)); n != 0 || e != api.OK {
			t.Errorf("%d: Cases = %d, %d, want 0", count, n, e)
		}
	}
}

func TestP20_1Decided(t *testing.T) {
	env := typed(t, exampleText)
	for s, want := range map[string]bool{
		"true": true, "n < 5": true, "5 < n": true, "n in (1, 2.5)": true, "b": true, "v?card": true, "has(o.q)": true, "has(l)": true, `one = "a"`: true, `one in ("a", "b")`: true, `"a" != one`: true, `raw = x"00"`: true, `w < "b"`: true, "not (b and (n < 5 or has(note)))": true, `day < date "2000-01-02"`: true,
		"n = m": false, "n < m": false, `one < "a"`: false, `"a" >= one`: false, `none > ""`: false, "n in (1, m)": false, "1 in (n, 2)": false, "1 = 2": false, "1 in (1, 2)": false, "l[0] = 1": false, "has(l[0])": false, "n + 1 = 2": false, "-n = 2": false, "b = b": false, "b else true": false, "if(b, b, b)": false, "sum(l[*]) = 3": false, `lower(w) = "a"`: false, "not (b and (n = m or b))": false, "b or (b and 1 = 1)": false, "length(l) = 1": false, "not 1 = 1": false, "n = m and b": false, "b and n = m": false,
	} {
		if is, e := predicate.Decided(env, condition(t, s)); is != want || e != api.OK {
			t.Errorf("Decided(%s) = %t, %d, want %t", s, is, e, want)
		}
	}
}

func TestP20_2TooManyCases(t *testing.T) {
	env := typed(t, exampleText)
	expectAnswer(t, env, repeated(t, "T n = 3 or n = 7", 9), predicate.Yes)
	expectAnswer(t, env, repeated(t, "T n = 3 or n = 7", 10), predicate.Unknown)
	expectAnswer(t, env, append(repeated(t, "T n < 3 or n > 7", 9), demands(t, "T n = 5")...), predicate.No)
	expectAnswer(t, env, append(repeated(t, "T n < 3 or n > 7", 10), demands(t, "T n = 5")...), predicate.Unknown)
	expectAnswer(t, env, append(repeated(t, "T n < 3 or n > 7", 10), demands(t, "X n = 5")...), predicate.No)
	expectAnswer(t, env, append(repeated(t, "T n > 7 or n = m", 9), demands(t, "T n = 5")...), predicate.Unknown)
	expectAnswer(t, env, append(repeated(t, "T n > 7 or n = m", 9), demands(t, "T n = 9")...), predicate.Yes)
}

func TestP20_3Implies(t *testing.T) {
	env := typed(t, exampleText)
	const yes, no, unknown = predicate.Yes, predicate.No, predicate.Unknown
	for _, c := range []struct {
		given string
		e     string
		want  int
	}{
		{"n > 5", "n >= 6", yes}, {"n != 7", "n < 7", no}, {"n > 5; n < 7", "n = 6", yes}, {"n > 5; n < 8", "n = 6", no}, {"", "n >= 0", yes}, {"", "n > 0", no}, {`note = "a"`, "has(note)", yes}, {"has(note)", `note = "a"`, no}, {"", `note = "a"`, no}, {"n > 9", "n = 3", yes}, {"n > 9", "n = m", yes}, {"n > 9; n = m", "false", yes}, {"n = m", "n = 3", unknown}, {"n = m", "n >= 0", yes}, {"", "n = m", unknown}, {"", `one < "b"`, unknown},
		// The condition fails.
		{"has(o)", "o.p < 4", yes}, {"", "o.p < 4", no}, {"", "has(note) and note != \"abcd\"", no}, {"", "not has(note) or note != \"abcd\"", yes}, {"has(v?cash)", "v?cash < 10", yes}, {"has(v?gift)", "v?cash < 10", no}, {"v?card", "v?card", yes}, {"o.q", "has(o)", yes}, {"has(o)", "o.q", no},
		// One outcome of it is unknown, and the other one is possible, or impossible.
		{"", "(n = m or n >= 0) and o.p < 4", unknown}, {"", "n = m and o.p < 4", unknown}, {"", "o.p < 4 and n = m", no}, {"has(o)", "o.p < 4 and n = m", unknown}, {"", "o.p < 4 or n = m", no},
	} {
		var given []E
		if c.given != "" {
			given = conditions(t, strings.Split(c.given, "; ")...)
		}
		answer, w, e := predicate.Implies(env, given, condition(t, c.e))
		if answer != c.want || e != api.OK || value.IsNull(w) != (answer != no) {
			t.Errorf("Implies(%s, %s) = %d, %v, %d, want %d", c.given, c.e, answer, w, e, c.want)
		}
		if answer == no {
			expectCounterexample(t, env, given, condition(t, c.e), w)
		}
	}
}

// expectCounterexample checks that a witness meets given conditions and not another one, which is False if that is possible.
func expectCounterexample(t *testing.T, env api.Type, given []E, e E, w V) {
	t.Helper()
	var l []D
	for _, x := range given {
		l = append(l, D{Expr: x, Outcome: predicate.True})
	}
	l = append(l, D{Expr: e, Outcome: predicate.False})
	if answer, _, _ := predicate.Possible(env, l); answer != predicate.Yes {
		l[len(given)].Outcome = predicate.Fails
	}
	expectWitness(t, env, l, w)
}

func TestP20_3Disjoint(t *testing.T) {
	env := typed(t, exampleText)
	for _, c := range []struct {
		a, b string
		want int
	}{
		{"has(v?card)", "has(v?cash)", predicate.Yes}, {"n < 5", "n > 4", predicate.Yes}, {"n < 5", "n >= 4", predicate.No}, {"n < 5", "b", predicate.No}, {"n > 9", "b", predicate.Yes}, {"n > 9", "n = m", predicate.Yes}, {"n = m", "n > 9", predicate.Yes}, {"n = m", "b", predicate.Unknown}, {"n = m or n = 2", "n < 3", predicate.Unknown}, {"n = 2 or n = m", "n < 3", predicate.No}, {`note = "a"`, "not has(note)", predicate.Yes}, {`note = "a"`, `note != "b"`, predicate.No}, {"b", "b", predicate.No}, {"false", "b", predicate.Yes}, {`w < "b"`, `w > "a"`, predicate.Yes},
	} {
		a, b := condition(t, c.a), condition(t, c.b)
		answer, w, e := predicate.Disjoint(env, a, b)
		if answer != c.want || e != api.OK || value.IsNull(w) != (answer != predicate.No) {
			t.Errorf("Disjoint(%s, %s) = %d, %v, %d, want %d", c.a, c.b, answer, w, e, c.want)
		}
		if answer == predicate.No {
			expectWitness(t, env, []D{{Expr: a, Outcome: predicate.True}, {Expr: b, Outcome: predicate.True}}, w)
		}
	}
}

// overwrite changes all that a value has in memory.
func overwrite(v V) {
	for i := range v.List {
		overwrite(v.List[i])
		v.List[i] = V{}
	}
	for i := range v.Fields {
		overwrite(v.Fields[i].Value)
		v.Fields[i] = api.Field{}
	}
}

func TestP20_4ResultsAreNew(t *testing.T) {
	env := typed(t, exampleText)
	l := demands(t, `T has(o.q); T note = "a"; T n in (1, 2); F f.g = 5`)
	_, w, _ := predicate.Possible(env, l)
	overwrite(w)
	if !schema.Equal(env, typed(t, exampleText)) {
		t.Error("the witness shares memory with the type")
	}
	for i, d := range demands(t, `T has(o.q); T note = "a"; T n in (1, 2); F f.g = 5`) {
		if !expr.Equal(d.Expr, l[i].Expr) {
			t.Error("the witness shares memory with a condition")
		}
	}
	expectAnswer(t, env, l, predicate.Yes)
}
