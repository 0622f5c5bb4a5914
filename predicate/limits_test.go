package predicate_test

import (
	"math/rand"
	"slices"
	"strconv"
	"strings"
	"testing"

	"manifold/api"
	"manifold/predicate"
	"manifold/value"
)

func constant(v V) E { return E{Op: api.OpValue, Value: []V{v}} }

// isIn returns the condition that what is at a path is one of some values.
func isIn(p string, l []V) E {
	e := E{Op: api.OpIn, Args: []E{{Op: api.OpPath, Text: p}}}
	for _, v := range l {
		e.Args = append(e.Args, constant(v))
	}
	return e
}

// noneOf returns demands by which what is at a path is none of some values.
func noneOf(p string, l []V) []D {
	var out []D
	for part := range slices.Chunk(l, 250) {
		out = append(out, D{Expr: isIn(p, part), Outcome: predicate.False})
	}
	return out
}

func TestP20_2AllTextsAreExcluded(t *testing.T) {
	env := typed(t, "record(1 none: text(0..0), 2 one: text(0..1), 3 just: text(1..1), 4 raw: bytes(1..1), 5 any: bytes(0..1), 6 long: text(1023..1024))")
	var ascii, bytes []V
	for n := range 256 {
		s := string([]byte{byte(n)})
		bytes = append(bytes, value.Bytes(s))
		if n < 128 {
			ascii = append(ascii, value.Text(s))
		}
	}
	empty := value.Text("")
	expectAnswer(t, env, noneOf("none", []V{empty}), predicate.No)
	expectAnswer(t, env, noneOf("none", ascii), predicate.Yes)
	expectAnswer(t, env, noneOf("one", ascii), predicate.Yes)
	expectAnswer(t, env, noneOf("one", append(ascii, empty)), predicate.No)
	expectAnswer(t, env, noneOf("just", ascii), predicate.No)
	expectAnswer(t, env, noneOf("raw", bytes), predicate.No)
	expectAnswer(t, env, noneOf("any", bytes), predicate.Yes)
	expectAnswer(t, env, noneOf("any", append(bytes, value.Bytes(""))), predicate.No)
	for n := range 128 {
		expectAnswer(t, env, noneOf("just", slices.Delete(slices.Clone(ascii), n, n+1)), predicate.Yes)
	}
	for n := range 256 {
		expectAnswer(t, env, noneOf("raw", slices.Delete(slices.Clone(bytes), n, n+1)), predicate.Yes)
	}
	long := strings.Repeat("a", 1022)
	var some []V
	for n := range 128 {
		some = append(some, value.Text(long+string(rune(n))), value.Text(long+"a"+string(rune(n))))
	}
	expectAnswer(t, env, noneOf("long", some), predicate.Yes)
}

// TestP20_3ManyTexts excludes all texts of two bytes that are ASCII, which only the greatest number of conditions can do.
func TestP20_3ManyTexts(t *testing.T) {
	env := typed(t, "record(1 s: text(2..2))")
	var texts []V
	for n := range 1 << 14 {
		texts = append(texts, value.Text(string([]byte{byte(n >> 7), byte(n & 127)})))
	}
	var given []E
	for part := range slices.Chunk(texts[:64*253], 253) {
		given = append(given, E{Op: api.OpNot, Args: []E{isIn("s", part)}})
	}
	answer, w, e := predicate.Implies(env, given, isIn("s", texts[64*253:]))
	s, _ := value.Field(w, "s")
	if answer != predicate.No || e != api.OK || len(s.Text) != 2 || len([]rune(s.Text)) != 1 {
		t.Errorf("Implies = %d, %v, %d", answer, w, e)
	}
}

// tree returns the tree of an operation with some levels, whose leaves a function returns.
func tree(op, levels int, leaf func() E) E {
	if levels == 0 {
		return leaf()
	}
	return E{Op: op, Args: []E{tree(op, levels-1, leaf), tree(op, levels-1, leaf)}}
}

// TestP20_4ManyParts has as many parts of conditions as possible, all of the same number, in as many cases as are examined.
func TestP20_4ManyParts(t *testing.T) {
	env := typed(t, "record(1 n: int(0..1000000))")
	r := rand.New(rand.NewSource(1))
	unequal := func() E {
		return E{Op: api.OpUnequal, Args: []E{{Op: api.OpPath, Text: "n"}, constant(value.Int(1 + r.Intn(999999)))}}
	}
	either := func() E { return tree(api.OpOr, 1, unequal) }
	var l []D
	for range 9 {
		e := E{Op: api.OpAnd, Args: []E{tree(api.OpAnd, 4, unequal), either()}}
		l = append(l, D{Expr: e, Outcome: predicate.True})
	}
	for range 54 {
		l = append(l, D{Expr: tree(api.OpAnd, 6, unequal), Outcome: predicate.True})
	}
	if n, e := predicate.Cases(env, l); n != predicate.MaxCases || e != api.OK {
		t.Fatalf("Cases = %d, %d", n, e)
	}
	expectAnswer(t, env, l, predicate.Yes)
	both := []E{condition(t, "n > 0"), condition(t, "n < 1000000")}
	var all []V
	for n := range 100 {
		all = append(all, value.Int(n*n))
	}
	l = append(l[:9:9], noneOf("n", all)...)
	l = append(l, D{Expr: isIn("n", all), Outcome: predicate.True}, D{Expr: both[0], Outcome: predicate.True}, D{Expr: both[1], Outcome: predicate.True})
	expectAnswer(t, env, l, predicate.No)
}

// TestP20_4ManyCases has more cases in parts of conditions than could be gone through, of which nothing is left.
func TestP20_4ManyCases(t *testing.T) {
	inner := "bool"
	for range 7 {
		inner = "record(1 a?: " + inner + ")"
	}
	env := typed(t, inner)
	missing := func() E { return condition(t, "not has(a.a.a.a.a.a.a)") } // in 7 cases
	many := tree(api.OpAnd, 5, missing)
	never := E{Op: api.OpAnd, Args: []E{many, condition(t, "false")}}
	always := E{Op: api.OpOr, Args: []E{{Op: api.OpNot, Args: []E{tree(api.OpAnd, 4, missing)}}, condition(t, "true")}}
	for _, c := range []struct {
		e       E
		outcome int
		cases   int
		want    int
	}{
		{many, predicate.True, predicate.MaxCases + 1, predicate.Unknown}, {never, predicate.True, 0, predicate.No}, {never, predicate.False, predicate.MaxCases + 1, predicate.Unknown}, {never, predicate.Fails, 0, predicate.No}, {always, predicate.False, 0, predicate.No}, {always, predicate.Fails, 0, predicate.No}, {always, predicate.True, predicate.MaxCases + 1, predicate.Unknown},
	} {
		l := []D{{Expr: c.e, Outcome: c.outcome}}
		if n, e := predicate.Cases(env, l); n != c.cases || e != api.OK {
			t.Errorf("Cases(%d) = %d, %d, want %d", c.outcome, n, e, c.cases)
		}
		expectAnswer(t, env, l, c.want)
	}
}

// TestP20_2Numbers compares the sets of numbers of random comparisons with all numbers.
func TestP20_2Numbers(t *testing.T) {
	r := rand.New(rand.NewSource(2))
	for range 4000 {
		scale := r.Intn(3)
		low := r.Intn(40) - 20
		high := low + r.Intn(40)
		env := api.Type{Kind: api.Record, Fields: []api.TypeField{{Number: 1, Name: "n", Need: api.Required, Type: api.Type{Kind: api.Decimal, Min: low, Max: high, Scale: scale}}}}
		var l []D
		for range 1 + r.Intn(6) {
			n := r.Intn(60) - 30
			s := strconv.Itoa(n)
			switch r.Intn(3) {
			case 0:
				s = "-" + strconv.Itoa(r.Intn(3)) + "." + strconv.Itoa(100+r.Intn(900))
			case 1:
				s = strconv.Itoa(r.Intn(3)) + "." + strconv.Itoa(10+r.Intn(90))
			}
			op := []string{"=", "!=", "<", "<=", ">", ">=", "!=", "!="}[r.Intn(8)]
			text := "n " + op + " " + s
			if r.Intn(2) == 0 {
				text = s + " " + op + " n"
			}
			l = append(l, D{Expr: condition(t, text), Outcome: 1 + r.Intn(2)})
		}
		want := predicate.No
		for n := low; n <= high; n++ {
			v := value.Record(api.Field{Name: "n", Value: value.Decimal(n, scale)})
			if !slices.ContainsFunc(l, func(d D) bool { return outcome(d.Expr, v) != d.Outcome }) {
				want = predicate.Yes
			}
		}
		expectAnswer(t, env, l, want)
	}
}
