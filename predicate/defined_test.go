package predicate_test

import (
	"math/rand"
	"strings"
	"testing"

	"manifold/api"
	"manifold/expr"
	"manifold/fit"
	"manifold/literal"
	"manifold/path"
	"manifold/predicate"
	"manifold/schema"
	"manifold/value"
)

// need is a requirement: that a condition has an outcome. Something opaque is a need without a condition.
type need struct {
	e       E
	outcome int
}

// choicesOf returns the choices of a path, each as the path up to it, and whether the path is plain.
func choicesOf(env api.Type, text string) (l []string, plain bool) {
	parts, _ := path.Parse(text)
	t := env
	for i, p := range parts {
		f, known := schema.Field(t, p.Name)
		if p.Kind != path.Field && p.Kind != path.Case || !known {
			return nil, false
		}
		if f.Need == api.Optional || p.Kind == path.Case && len(t.Fields) > 1 {
			upTo, _ := path.Text(parts[:i+1])
			l = append(l, upTo)
		}
		t = f.Type
	}
	return l, true
}

// isAtom reports whether an expression is an atom whose value depends on what is at a path, and returns the path.
func isAtom(env api.Type, e E) (string, bool) {
	constants := e.Args
	var p E
	switch e.Op {
	case api.OpPath:
		p = e
	case api.OpEqual, api.OpUnequal, api.OpLess, api.OpAtMost, api.OpGreater, api.OpAtLeast:
		p, constants = e.Args[0], e.Args[1:]
		if p.Op == api.OpValue {
			p, constants = e.Args[1], e.Args[:1]
		}
	case api.OpIn:
		p, constants = e.Args[0], e.Args[1:]
	}
	if p.Op != api.OpPath {
		return "", false
	}
	for _, c := range constants {
		if c.Op != api.OpValue {
			return "", false
		}
	}
	if _, plain := choicesOf(env, p.Text); !plain {
		return "", false
	}
	l, _ := path.Parse(p.Text)
	t, _, _ := schema.At(env, l)
	inOrder := e.Op >= api.OpLess && e.Op <= api.OpAtLeast
	return p.Text, !(t.Kind == api.Text && len(t.Words) == 0 && inOrder)
}

// product returns all combinations of a case of each list.
func product(a, b [][]need) [][]need {
	var l [][]need
	for _, x := range a {
		for _, y := range b {
			l = append(l, append(append([]need{}, x...), y...))
		}
	}
	return l
}

// casesAsDefined returns the cases of a demand in the words of the document.
func casesAsDefined(env api.Type, e E, outcome int) [][]need {
	other := map[int]int{predicate.True: predicate.False, predicate.False: predicate.True, predicate.Fails: predicate.Fails}
	of := func(i, outcome int) [][]need { return casesAsDefined(env, e.Args[i], outcome) }
	has := func(p string, outcome int) need { return need{E{Op: api.OpHas, Text: p}, outcome} }
	switch e.Op {
	case api.OpNot:
		return of(0, other[outcome])
	case api.OpAnd, api.OpOr:
		open := predicate.True
		if e.Op == api.OpOr {
			open = predicate.False
		}
		if outcome == open {
			return product(of(0, open), of(1, open))
		}
		return append(of(0, outcome), product(of(0, open), of(1, outcome))...)
	case api.OpValue:
		if (e.Value[0].Int == 1) == (outcome == predicate.True) && outcome != predicate.Fails {
			return [][]need{{}}
		}
		return nil
	}
	p, is := isAtom(env, e)
	if e.Op == api.OpHas {
		p = e.Text
		_, is = choicesOf(env, p)
	}
	if !is {
		return [][]need{{{}}}
	}
	choices, _ := choicesOf(env, p)
	var taken []need
	var missed [][]need
	for _, c := range choices {
		missed = append(missed, append(append([]need{}, taken...), has(c, predicate.False)))
		taken = append(taken, has(c, predicate.True))
	}
	switch {
	case e.Op == api.OpHas && outcome == predicate.True:
		return [][]need{taken}
	case e.Op == api.OpHas && outcome == predicate.Fails:
		return nil
	case e.Op == api.OpHas || outcome == predicate.Fails:
		return missed
	}
	return [][]need{append(taken, need{e, outcome})}
}

// allOf returns the cases of several demands.
func allOf(env api.Type, l []D) [][]need {
	cases := [][]need{{}}
	for _, d := range l {
		cases = product(cases, casesAsDefined(env, d.Expr, d.Outcome))
	}
	return cases
}

// possibleAsDefined returns the answer of Possible, if all environments that matter are known.
func possibleAsDefined(env api.Type, l []D, all []V) int {
	cases := allOf(env, l)
	if len(cases) > predicate.MaxCases {
		return predicate.Unknown
	}
	answer := predicate.No
	for _, c := range cases {
		opaque := false
		var needs []need
		for _, n := range c {
			opaque = opaque || n.outcome == 0
			if n.outcome != 0 {
				needs = append(needs, n)
			}
		}
		for _, v := range all {
			if !meets(v, needs) {
				continue
			}
			if !opaque {
				return predicate.Yes
			}
			answer = predicate.Unknown
		}
	}
	return answer
}

func meets(v V, needs []need) bool {
	for _, n := range needs {
		if outcome(n.e, v) != n.outcome {
			return false
		}
	}
	return true
}

// valuesOf returns all values of a type that matter. The texts without words and the bytes that conditions have are a, b, and c, and all others count as one.
func valuesOf(t api.Type) []V {
	var l []V
	switch t.Kind {
	case api.Bool:
		return []V{value.Bool(false), value.Bool(true)}
	case api.Int, api.Decimal, api.Date, api.Time:
		for n := t.Min; n <= t.Max; n++ {
			l = append(l, V{Kind: t.Kind, Int: n, Scale: t.Scale})
		}
	case api.Text, api.Bytes:
		texts := t.Words
		if len(texts) == 0 {
			texts = []string{"", "a", "b", "c", "z", "abc", "zz"}
		}
		for _, s := range texts {
			if len(t.Words) > 0 || len(s) >= t.Min && len(s) <= t.Max {
				l = append(l, V{Kind: t.Kind, Text: s})
			}
		}
	case api.List:
		v, _ := schema.Least(t)
		return []V{v}
	case api.Variant:
		for _, f := range t.Fields {
			for _, v := range valuesOf(f.Type) {
				l = append(l, value.Variant(f.Name, v))
			}
		}
	case api.Record:
		l = []V{value.Record()}
		for _, f := range t.Fields {
			l = withField(l, f)
		}
	}
	return l
}

// withField returns records with each of the values that a field can have.
func withField(records []V, f api.TypeField) []V {
	var l []V
	if f.Need == api.Optional {
		l = append(l, records...)
	}
	for _, v := range valuesOf(f.Type) {
		for _, x := range records {
			record, _ := value.With(x, f.Name, v)
			l = append(l, record)
		}
	}
	return l
}

// someFields are what random environments consist of, with conditions on them.
var someFields = []struct {
	field string
	atoms []string
}{
	{"n: int(0..3)", []string{"n > 1", "n < 2.5", "2 >= n", "n = 4", "n != 2", "n in (0, 3, 7)", "n in (1.0, 2)", "has(n)", "n >= 0"}},
	{"i?: int(-1..2)", []string{"i > 0", "i != 1", "has(i)", "i in (-1, 1)", "0 = i", "i <= 2"}},
	{"d: decimal(1, -0.3..0.4)", []string{"d > 0", "d < 0.25", "d = 0.05", "d != 0.1", "d in (0.10, 0.3, 1)", "-0.2 <= d", "d >= -0.299"}},
	{"b: bool", []string{"b", "b = false", "true > b", "b != true", "b in (true)", "b <= false"}},
	{"c?: bool", []string{"c", "c = true", "has(c)", "c < true"}},
	{`w: text("a" | "ab" | "b")`, []string{`w < "b"`, `w = "a"`, `w >= "ab"`, `w > "aa"`, `w in ("b", "c")`, `"a" != w`}},
	{"t?: text(0..1)", []string{`t = "a"`, `t != "b"`, `t in ("a", "b", "abc")`, "has(t)", `"" = t`, `t < "b"`}},
	{"one: text(1..1)", []string{`one = "a"`, `one != "b"`, `one in ("b", "c")`, `one = ""`, `one > "a"`}},
	{"empty: text(0..0)", []string{`empty = ""`, `empty != ""`, `empty = "a"`}},
	{"raw: bytes(0..1)", []string{`raw = x"61"`, `raw != x""`, `raw in (x"62", x"", x"6162")`}},
	{`day: date("1970-01-01".."1970-01-03")`, []string{`day > date "1970-01-01"`, `day = date "1970-01-03"`, `day < date "1969-12-31"`, `date "1970-01-02" >= day`}},
	{"v: variant(1 x: bool, 2 y: int(0..2), 3 z: record(1 k?: bool))", []string{"has(v?x)", "v?x", "v?y > 0", "v?y = 1", "has(v?z.k)", "v?z.k", "has(v)", "has(v?z)", "v?z.k = false"}},
	{"s: variant(1 only: record(1 x?: bool, 2 y: int(0..1)))", []string{"s?only.y = 1", "s?only.x", "has(s?only)", "has(s?only.x)"}},
	{"o?: record(1 p: bool, 2 q?: variant(1 r: bool, 2 s: bool))", []string{"o.p", "has(o)", "has(o.q)", "has(o.q?r)", "o.q?s", "not o.q?r", "has(o.p)"}},
	{"f: record(1 g?: int(0..1), 2 h: bool) = {g: 1, h: true}", []string{"has(f.g)", "f.g = 0", "f.h", "has(f)"}},
	{"l: list(1..2, bool)", []string{"l[0]", "has(l[1])", "has(l)", "length(l) > 1", "l[1] = true"}},
}

// randomEnv returns a random type of environments, and atoms and other parts of conditions for it.
func randomEnv(t *testing.T, r *rand.Rand) (api.Type, []string) {
	t.Helper()
	atoms := []string{"true", "false", "1 = 1", "2 in (1, 3)"}
	var fields []string
	for i, at := range r.Perm(len(someFields))[:1+r.Intn(3)] {
		fields = append(fields, string(rune('1'+i))+" "+someFields[at].field)
		atoms = append(atoms, someFields[at].atoms...)
	}
	return typed(t, "record("+strings.Join(fields, ", ")+")"), atoms
}

// randomCondition returns a random condition of some levels.
func randomCondition(r *rand.Rand, atoms []string, levels int) string {
	if levels == 1 || r.Intn(4) == 0 {
		if r.Intn(10) == 0 {
			return "if(" + atoms[r.Intn(4)] + ", " + atoms[r.Intn(len(atoms))] + ", false)"
		}
		if r.Intn(4) > 0 {
			return atoms[4+r.Intn(len(atoms)-4)]
		}
		return atoms[r.Intn(len(atoms))]
	}
	a, b := randomCondition(r, atoms, levels-1), randomCondition(r, atoms, levels-1)
	return []string{"not (" + a + ")", "(" + a + ") and (" + b + ")", "(" + a + ") or (" + b + ")"}[r.Intn(3)]
}

// TestP20_2AsDefined compares Possible and Cases with what is defined, where all environments can be tried.
func TestP20_2AsDefined(t *testing.T) {
	r := rand.New(rand.NewSource(1))
	found := map[int]int{}
	for range 6000 {
		env, atoms := randomEnv(t, r)
		var l []D
		for range r.Intn(4) {
			l = append(l, D{Expr: condition(t, randomCondition(r, atoms, 1+r.Intn(3))), Outcome: 1 + r.Intn(2+r.Intn(2))})
		}
		cases := allOf(env, l)
		if n, e := predicate.Cases(env, l); n != min(len(cases), predicate.MaxCases+1) || e != api.OK {
			t.Fatalf("Cases(%v) = %d, %d, want %d", l, n, e, len(cases))
		}
		want := possibleAsDefined(env, l, valuesOf(env))
		answer, w, e := predicate.Possible(env, l)
		if answer != want || e != api.OK || value.IsNull(w) != (answer != predicate.Yes) {
			text, _ := literal.TypeText(env)
			t.Fatalf("Possible(%s, %v) = %d, %v, %d, want %d", text, l, answer, w, e, want)
		}
		if answer == predicate.Yes {
			expectWitness(t, env, l, w)
		}
		found[answer]++
	}
	for _, answer := range []int{predicate.Unknown, predicate.Yes, predicate.No} {
		if found[answer] < 500 {
			t.Errorf("the answer %d was found %d times", answer, found[answer])
		}
	}
}

// TestP20_3AsDefined compares Implies and Disjoint with answers of Possible.
func TestP20_3AsDefined(t *testing.T) {
	r := rand.New(rand.NewSource(2))
	for range 3000 {
		env, atoms := randomEnv(t, r)
		var given []E
		var l []D
		for range r.Intn(3) {
			e := condition(t, randomCondition(r, atoms, 1+r.Intn(3)))
			given, l = append(given, e), append(l, D{Expr: e, Outcome: predicate.True})
		}
		e := condition(t, randomCondition(r, atoms, 1+r.Intn(3)))
		isFalse, v, _ := predicate.Possible(env, append(l, D{Expr: e, Outcome: predicate.False}))
		fails, x, _ := predicate.Possible(env, append(l, D{Expr: e, Outcome: predicate.Fails}))
		want, witness := predicate.Unknown, V{}
		switch {
		case isFalse == predicate.Yes:
			want, witness = predicate.No, v
		case fails == predicate.Yes:
			want, witness = predicate.No, x
		case isFalse == predicate.No && fails == predicate.No:
			want = predicate.Yes
		}
		if answer, w, failure := predicate.Implies(env, given, e); answer != want || !value.Equal(w, witness) || failure != api.OK {
			t.Fatalf("Implies(%v, %v) = %d, %v, %d, want %d, %v", given, e, answer, w, failure, want, witness)
		}
		other := condition(t, randomCondition(r, atoms, 2))
		both, v, _ := predicate.Possible(env, []D{{Expr: e, Outcome: predicate.True}, {Expr: other, Outcome: predicate.True}})
		want = map[int]int{predicate.Yes: predicate.No, predicate.No: predicate.Yes}[both]
		if answer, w, failure := predicate.Disjoint(env, e, other); answer != want || !value.Equal(w, v) || failure != api.OK {
			t.Fatalf("Disjoint(%v, %v) = %d, %v, %d, want %d, %v", e, other, answer, w, failure, want, v)
		}
	}
}

func TestP20_4Consequences(t *testing.T) {
	r := rand.New(rand.NewSource(3))
	for range 2000 {
		env, atoms := randomEnv(t, r)
		e, other := condition(t, randomCondition(r, atoms, 3)), condition(t, randomCondition(r, atoms, 3))
		kept, keptEnv := expr.Clone(e), schema.Clone(env)
		decided, _ := predicate.Decided(env, e)
		possible := 0
		for wanted := predicate.True; wanted <= predicate.Fails; wanted++ {
			l := []D{{Expr: e, Outcome: wanted}}
			answer, _, _ := predicate.Possible(env, l)
			cases, _ := predicate.Cases(env, l)
			if answer != predicate.No {
				possible++
			}
			if answer == predicate.Unknown && decided && cases <= predicate.MaxCases {
				t.Fatalf("Possible(%v) is unknown", l)
			}
			if answer != predicate.No {
				continue
			}
			further, _, _ := predicate.Possible(env, append(l, D{Expr: other, Outcome: 1 + r.Intn(3)}))
			if further == predicate.Yes {
				t.Fatalf("Possible(%v) is yes with a further demand only", l)
			}
			for _, v := range valuesOf(env) {
				if fit.Fits(env, v) && outcome(e, v) == wanted {
					t.Fatalf("Possible(%v) is no, but there is %v", l, v)
				}
			}
		}
		if possible == 0 {
			t.Fatalf("%v has no outcome", e)
		}
		if !expr.Equal(e, kept) || !schema.Equal(env, keptEnv) {
			t.Fatal("an argument has changed")
		}
	}
}
