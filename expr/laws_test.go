package expr_test

import (
	"math/rand"
	"slices"
	"strconv"
	"strings"
	"testing"

	"manifold/api"
	"manifold/expr"
	"manifold/fit"
	"manifold/schema"
	"manifold/value"
)

// someBound returns a number that is often a special one.
func someBound(r *rand.Rand) int {
	switch r.Intn(6) {
	case 0:
		return []int{-most, most, 0, most / 10, -most / 1000}[r.Intn(5)]
	case 1:
		return r.Intn(2*most+1) - most
	}
	return r.Intn(21) - 8
}

// someScalar returns a type without parts.
func someScalar(r *rand.Rand, kind int) T {
	t := T{Kind: kind}
	switch kind {
	case api.Bool:
		return t
	case api.Int, api.Decimal:
		a, b := someBound(r), someBound(r)
		t.Min, t.Max = min(a, b), max(a, b)
		if kind == api.Decimal {
			t.Scale = []int{0, 1, 2, 7, 12}[r.Intn(5)]
		}
	case api.Text:
		if r.Intn(2) == 0 {
			return words([][]string{{""}, {"A", "a"}, {"", "Bc", "d", "é"}, {"-7", "12"}}[r.Intn(4)]...)
		}
		t.Min = r.Intn(3)
		t.Max = t.Min + []int{0, 1, 5, 1000}[r.Intn(4)]
	case api.Bytes:
		t.Min = r.Intn(3)
		t.Max = t.Min + r.Intn(4)
	default:
		t.Min = r.Intn(2000) - 1000
		t.Max = t.Min + r.Intn(3)
	}
	return t
}

func someList(r *rand.Rand, t T) T {
	least := r.Intn(2)
	return list(least, least+[]int{0, 1, 2, 3, 200}[r.Intn(5)], t)
}

// someEnv returns the type of an environment with fields of all kinds.
func someEnv(r *rand.Rand) T {
	var l []F
	add := func(name string, t T) {
		f := F{Name: name, Need: api.Required, Type: t}
		switch r.Intn(4) {
		case 0:
			f.Need = api.Optional
		case 1:
			v, _ := schema.Least(t)
			f.Need, f.Default = api.Defaulted, []V{v}
		}
		l = append(l, f)
	}
	for kind := api.Bool; kind <= api.Time; kind++ {
		for i := range 2 {
			add("f"+strconv.Itoa(kind)+strconv.Itoa(i), someScalar(r, kind))
		}
	}
	number := func() T { return someScalar(r, api.Int+r.Intn(2)) }
	add("l", someList(r, number()))
	add("m", someList(r, someList(r, number())))
	item := record(F{Name: "n", Need: api.Required + r.Intn(2), Type: number()}, required("t", someScalar(r, api.Text)), required("k", someList(r, number())))
	add("r", item)
	add("s", someList(r, item))
	add("v", variant(required("a", number()), required("b", someScalar(r, api.Text)), required("c", item)))
	add("w", variant(required("only", flag)))
	return record(l...)
}

func someText(r *rand.Rand, least, most int) string {
	s := ""
	for size := least + r.Intn(min(most-least, 6)+1); len(s) < size; {
		x := []string{"a", "B", "1", "-", "é", " "}[r.Intn(6)]
		if len(s)+len(x) <= size {
			s += x
		}
	}
	return s
}

// someFit returns a value that fits a type.
func someFit(r *rand.Rand, t T) V {
	v := V{Kind: t.Kind, Scale: t.Scale}
	switch t.Kind {
	case api.Bool:
		v.Int = r.Intn(2)
	case api.Text:
		if len(t.Words) > 0 {
			v.Text = t.Words[r.Intn(len(t.Words))]
		} else {
			v.Text = someText(r, t.Min, t.Max)
		}
	case api.Bytes:
		v.Text = strings.Repeat("\xFF", t.Min+r.Intn(t.Max-t.Min+1))
	case api.List:
		for range t.Min + r.Intn(min(t.Max-t.Min, 4)+1) {
			v.List = append(v.List, someFit(r, t.Elem[0]))
		}
		if t.Max > 100 && r.Intn(20) == 0 {
			v.List = slices.Repeat([]V{someFit(r, t.Elem[0])}, t.Max)
		}
	case api.Record:
		var l []api.Field
		for _, f := range t.Fields {
			if f.Need != api.Optional || r.Intn(2) == 0 {
				l = append(l, field(f.Name, someFit(r, f.Type)))
			}
		}
		v = value.Record(l...)
	case api.Variant:
		c := t.Fields[r.Intn(len(t.Fields))]
		v = value.Variant(c.Name, someFit(r, c.Type))
	default:
		v.Int = t.Min + []int{0, t.Max - t.Min, r.Intn(t.Max - t.Min + 1)}[r.Intn(3)]
	}
	return v
}

// pathsIn returns the paths into values of a type, by the kinds to which they lead.
func pathsIn(t T) map[int][]string {
	m := map[int][]string{}
	var visit func(t T, s string)
	visit = func(t T, s string) {
		m[t.Kind] = append(m[t.Kind], s)
		switch t.Kind {
		case api.List:
			for _, i := range []string{"[0]", "[1]", "[*]"} {
				visit(t.Elem[0], s+i)
			}
		case api.Record:
			for _, f := range t.Fields {
				visit(f.Type, strings.TrimPrefix(s+"."+f.Name, "."))
			}
		case api.Variant:
			for _, f := range t.Fields {
				visit(f.Type, s+"?"+f.Name)
			}
		}
	}
	visit(t, "")
	return m
}

// maker makes random expressions for environments of a type.
type maker struct {
	r     *rand.Rand
	paths map[int][]string
}

func (m maker) pick(l ...int) int { return l[m.r.Intn(len(l))] }

// path returns a path to a kind of values, with a part [*] or without one.
func (m maker) path(kind int, all bool) string {
	l := slices.DeleteFunc(slices.Clone(m.paths[kind]), func(s string) bool { return s == "" || strings.Contains(s, "[*]") != all })
	if len(l) == 0 || m.r.Intn(40) == 0 {
		return []string{"zz", "f20.a", "l[255]", "v?zz", "l[*].a", "m[*][*]"}[m.r.Intn(6)]
	}
	return l[m.r.Intn(len(l))]
}

func (m maker) leaf(kind int) E {
	if m.r.Intn(3) > 0 || kind > api.Time {
		return at(m.path(kind, false))
	}
	return lit(someFit(m.r, someScalar(m.r, kind)))
}

// number returns an expression whose value is an Int or a Decimal.
func (m maker) number(levels int) E { return m.make(m.pick(api.Int, api.Decimal), levels) }

// make returns an expression that usually has a value of a kind.
func (m maker) make(kind, levels int) E {
	r := m.r
	if levels == 1 || r.Intn(5) == 0 {
		return m.leaf(kind)
	}
	if r.Intn(25) == 0 {
		kind = 1 + r.Intn(10)
	}
	switch r.Intn(8) {
	case 0:
		return op(api.OpElse, m.make(kind, levels-1), m.make(kind, levels-1))
	case 1:
		return op(api.OpIf, m.make(api.Bool, levels-1), m.make(kind, levels-1), m.make(kind, levels-1))
	}
	switch kind {
	case api.Bool:
		return m.condition(levels - 1)
	case api.Int:
		switch r.Intn(5) {
		case 0:
			return op(api.OpLength, m.make(m.pick(api.Text, api.Bytes, api.List), levels-1))
		case 1:
			return op(api.OpNumber, m.make(api.Text, levels-1))
		case 2:
			return sum(m.path(m.pick(api.Int, api.Decimal), true), 0)
		case 3:
			return op(api.OpNegate, m.make(api.Int, levels-1))
		}
		return op(m.pick(api.OpAdd, api.OpSubtract, api.OpMultiply), m.make(api.Int, levels-1), m.make(api.Int, levels-1))
	case api.Decimal:
		switch r.Intn(5) {
		case 0:
			return divide(m.number(levels-1), m.number(levels-1), m.pick(0, 2, 12, r.Intn(13)))
		case 1:
			return sum(m.path(m.pick(api.Int, api.Decimal), true), m.pick(1, 2, 12))
		case 2:
			return op(api.OpNegate, m.make(api.Decimal, levels-1))
		}
		return op(m.pick(api.OpAdd, api.OpSubtract, api.OpMultiply), m.number(levels-1), m.number(levels-1))
	case api.Text:
		switch r.Intn(4) {
		case 0:
			return op(m.pick(api.OpLower, api.OpUpper), m.make(api.Text, levels-1))
		case 1:
			return op(api.OpSlice, m.make(api.Text, levels-1), m.leaf(api.Int), m.make(api.Int, levels-1))
		case 2:
			return op(api.OpText, m.make(m.pick(api.Bool, api.Int, api.Decimal, api.Text, api.Date, api.Time, 1+r.Intn(10)), levels-1))
		}
		return op(api.OpConcat, m.make(api.Text, levels-1), m.make(api.Text, levels-1))
	}
	return m.leaf(kind)
}

// condition returns an expression whose value is usually a Bool.
func (m maker) condition(levels int) E {
	kind := 1 + m.r.Intn(10)
	other := func() E {
		if kind == api.Int || kind == api.Decimal {
			return m.number(levels)
		}
		return m.make(kind, levels)
	}
	switch m.r.Intn(6) {
	case 0:
		return op(api.OpNot, m.make(api.Bool, levels))
	case 1:
		return op(m.pick(api.OpAnd, api.OpOr), m.make(api.Bool, levels), m.make(api.Bool, levels))
	case 2:
		return op(m.pick(api.OpEqual, api.OpUnequal), other(), other())
	case 3:
		return op(api.OpIn, other(), other(), other())
	case 4:
		return has(m.path(1+m.r.Intn(10), false))
	}
	return op(m.pick(api.OpLess, api.OpAtMost, api.OpGreater, api.OpAtLeast), other(), other())
}

// spoiled returns an expression with a part that may be wrong.
func spoiled(r *rand.Rand, e E) E {
	e = expr.Clone(e)
	x := &e
	for len(x.Args) > 0 && r.Intn(3) > 0 {
		x = &x.Args[r.Intn(len(x.Args))]
	}
	switch r.Intn(7) {
	case 0:
		x.Op = r.Intn(31) - 1
	case 1:
		x.Int = r.Intn(16) - 2
	case 2:
		x.Text = []string{"", "a", "l[*]", "a..b"}[r.Intn(4)]
	case 3:
		x.Args = append(x.Args, num(1))
	case 4:
		x.Args = x.Args[:len(x.Args)/2]
	case 5:
		x.Value = [][]V{nil, {value.Int(1)}, {{}}, {value.List()}, {value.Int(1), value.Int(2)}, {value.Int(most + 1)}}[r.Intn(6)]
	case 6:
		*x = nested(r.Intn(8), *x)
	}
	return e
}

func TestP16_1AsDefined(t *testing.T) {
	r := rand.New(rand.NewSource(1))
	found := map[api.Errno]int{}
	for range 40 {
		m := maker{r, pathsIn(someEnv(r))}
		for range 1000 {
			e := m.make(1+r.Intn(7), 1+r.Intn(5))
			for range r.Intn(3) {
				e = spoiled(r, e)
			}
			want := failure(func() { checkAsDefined(e) })
			if got := expr.Check(e); got != want {
				t.Fatalf("Check(%v) = %d, want %d", e, got, want)
			}
			found[want]++
			if _, x := expr.Eval(e, value.Record()); want != api.OK && x != want {
				t.Fatalf("Eval(%v): %d, want %d", e, x, want)
			}
			if c := expr.Clone(e); !expr.Equal(c, e) || !expr.Equal(e, c) {
				t.Fatalf("Clone(%v) = %v", e, c)
			}
		}
	}
	for _, x := range []api.Errno{api.OK, api.ErrDepth, api.ErrKind, api.ErrFormat, api.ErrShort, api.ErrRange, api.ErrPath, api.ErrSyntax, api.ErrAbsent, api.ErrType} {
		if found[x] < 50 {
			t.Errorf("%d expressions with the error %d", found[x], x)
		}
	}
}

// TestP16_7Random compares Infer and Eval with what is defined, and with each other, for random expressions, types and values.
func TestP16_7Random(t *testing.T) {
	r := rand.New(rand.NewSource(2))
	inferred, evaluated := map[api.Errno]int{}, map[api.Errno]int{}
	totals, nulls := 0, 0
	for range 250 {
		env := someEnv(r)
		kept := schema.Clone(env)
		m := maker{r, pathsIn(env)}
		values := []V{someFit(r, env), someFit(r, env), someFit(r, env)}
		for range 100 {
			e := m.make(1+r.Intn(8), 1+r.Intn(5))
			copied := expr.Clone(e)
			got, x := expr.Infer(e, env)
			compareInfer(t, e, env, got, x)
			inferred[x]++
			for _, v := range values {
				y, z := expr.Eval(e, v)
				compareEval(t, e, v, y, z)
				evaluated[z]++
				if x != api.OK {
					continue
				}
				if got.Total {
					totals++
				}
				if z == api.OK && value.IsNull(y) {
					nulls++
				}
				expectAgreement(t, e, got, y, z)
			}
			if x == api.OK {
				y, z := expr.Eval(e, values[0])
				expectIndependence(t, r, e, env, values[0], y, z)
			}
			if !expr.Equal(e, copied) {
				t.Fatal("the expression was modified")
			}
		}
		if !schema.Equal(env, kept) {
			t.Fatal("the type was modified")
		}
	}
	for _, x := range []api.Errno{api.OK, api.ErrType, api.ErrPath, api.ErrOverflow} {
		if inferred[x] < 10 {
			t.Errorf("%d expressions are inferred with the error %d", inferred[x], x)
		}
	}
	for _, x := range []api.Errno{api.OK, api.ErrType, api.ErrPath, api.ErrAbsent, api.ErrOverflow, api.ErrDivide, api.ErrRange, api.ErrSyntax} {
		if evaluated[x] < 50 {
			t.Errorf("%d expressions are evaluated with the error %d", evaluated[x], x)
		}
	}
	if totals < 1000 || nulls < 500 {
		t.Error(totals, nulls)
	}
}

func compareInfer(t *testing.T, e E, env T, got R, x api.Errno) {
	t.Helper()
	var want R
	f := failure(func() {
		checkAsDefined(e)
		want = typing{env}.infer(e)
	})
	if f != api.OK {
		want = R{}
	}
	if !schema.Equal(got.Type, want.Type) || got.Absent != want.Absent || got.Total != want.Total || x != f {
		t.Fatalf("Infer(%v, %v) = %v, %d, want %v, %d", e, env, got, x, want, f)
	}
}

func compareEval(t *testing.T, e E, env, got V, x api.Errno) {
	t.Helper()
	var want V
	f := failure(func() {
		checkAsDefined(e)
		want = valuing{env}.eval(e)
	})
	if f != api.OK {
		want = V{}
	}
	if !value.Equal(got, want) || x != f {
		t.Fatalf("Eval(%v, %v) = %v, %d, want %v, %d", e, env, got, x, want, f)
	}
	is, y := expr.Condition(e, env)
	switch {
	case f == api.OK && value.IsNull(want):
		f = api.ErrAbsent
	case f == api.OK && want.Kind != api.Bool:
		f = api.ErrType
	}
	if y != f || is != (f == api.OK && want.Int == 1) {
		t.Fatalf("Condition(%v, %v) = %v, %d, want %d", e, env, is, y, f)
	}
}

// expectAgreement checks that a value is as it was inferred.
func expectAgreement(t *testing.T, e E, r R, v V, x api.Errno) {
	t.Helper()
	switch {
	case x != api.OK && (r.Total || x == api.ErrKind || x == api.ErrType || x == api.ErrPath):
		t.Fatalf("Eval(%v): %d, but %v was inferred", e, x, r)
	case x == api.OK && value.IsNull(v) && !r.Absent:
		t.Fatalf("%v is absent, but %v was inferred", e, r)
	case x == api.OK && !value.IsNull(v) && !fit.Fits(r.Type, v):
		t.Fatalf("Eval(%v) = %v, but %v was inferred", e, v, r)
	case schema.Check(r.Type) != api.OK:
		t.Fatalf("%v has the type %v", e, r.Type)
	}
}

// expectIndependence checks that the fields that are in no path of an expression do not matter.
func expectIndependence(t *testing.T, r *rand.Rand, e E, env T, v, want V, x api.Errno) {
	t.Helper()
	other := someFit(r, env)
	l := expr.Paths(e)
	if !slices.IsSorted(l) || len(slices.Compact(slices.Clone(l))) != len(l) {
		t.Fatalf("Paths(%v) = %v", e, l)
	}
	for _, s := range l {
		name := s
		if i := strings.IndexAny(s, ".[?"); i >= 0 {
			name = s[:i]
		}
		if without, x := value.Without(other, name); x == api.OK {
			other = without
		}
		if x, is := value.Field(v, name); is {
			other, _ = value.With(other, name, x)
		}
	}
	if got, y := expr.Eval(e, other); !value.Equal(got, want) || y != x {
		t.Fatalf("Eval(%v) = %v, %d for %v, and %v, %d for %v", e, got, y, other, want, x, v)
	}
}

// damaged returns a value in which anything may be wrong.
func damaged(r *rand.Rand, v V) V {
	v = value.Clone(v)
	x := &v
	for r.Intn(4) > 0 {
		if n := len(x.Fields); n > 0 {
			x = &x.Fields[r.Intn(n)].Value
		} else if n := len(x.List); n > 0 {
			x = &x.List[r.Intn(n)]
		}
	}
	odd := []int{-1, 0, 1, 7, 13, most + 1, -1 << 63, 1<<63 - 1}
	switch r.Intn(6) {
	case 0:
		x.Kind = r.Intn(13) - 1
	case 1:
		x.Int = odd[r.Intn(len(odd))]
	case 2:
		x.Scale = odd[r.Intn(len(odd))]
	case 3:
		x.Text = []string{"\xFF", "a\xC3", strings.Repeat("x", 3000)}[r.Intn(3)]
	case 4:
		x.List = append(x.List, V{}, value.Int(1))
	case 5:
		x.Fields = append(x.Fields, field("", V{}), field("b", value.Text("x")))
	}
	return v
}

// TestP16_3DamagedValues checks only that there is an end: what is returned for such environments is not specified.
func TestP16_3DamagedValues(t *testing.T) {
	r := rand.New(rand.NewSource(3))
	for range 100 {
		env := someEnv(r)
		m := maker{r, pathsIn(env)}
		v := someFit(r, env)
		for range 100 {
			v := damaged(r, v)
			for range r.Intn(3) {
				v = damaged(r, v)
			}
			v.Kind = api.Record
			if x, e := expr.Eval(m.make(1+r.Intn(8), 1+r.Intn(5)), v); e != api.OK && !value.IsNull(x) {
				t.Fatal(x, e)
			}
		}
	}
}
