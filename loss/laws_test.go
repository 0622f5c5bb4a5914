package loss_test

import (
	"fmt"
	"math/rand"
	"slices"
	"testing"

	"manifold/api"
	"manifold/evolve"
	"manifold/fit"
	"manifold/loss"
	"manifold/mapping"
	"manifold/schema"
	"manifold/value"
)

// varier changes values at the leaves of their types that are free, by the texts of their paths.
type varier struct {
	r    *rand.Rand
	free []string
}

// isFree reports whether all leaves of a type at a path are free.
func (x varier) isFree(t T, s string) bool {
	for _, leaf := range schema.Leaves(t) {
		rest := textOf(leaf)
		if rest != "" && rest[0] != '[' && rest[0] != '?' && s != "" {
			rest = "." + rest
		}
		if !slices.Contains(x.free, s+rest) {
			return false
		}
	}
	return true
}

// vary returns another value that fits a type at a path, and differs in free leaves only.
func (x varier) vary(t T, v V, s string) V {
	if x.isFree(t, s) && x.r.Intn(3) > 0 {
		return oneOf(x.r, t)
	}
	switch t.Kind {
	case api.List:
		l := make([]V, len(v.List))
		for i, y := range v.List {
			l[i] = x.vary(t.Elem[0], y, s+"[*]")
		}
		return value.List(l...)
	case api.Variant:
		f, _ := schema.Field(t, v.Text)
		if g := t.Fields[x.r.Intn(len(t.Fields))]; x.isFree(f.Type, s+"?"+f.Name) && x.isFree(g.Type, s+"?"+g.Name) {
			return value.Variant(g.Name, oneOf(x.r, g.Type))
		}
		return value.Variant(f.Name, x.vary(f.Type, v.List[0], s+"?"+f.Name))
	case api.Record:
		return x.varyFields(t, v, s)
	}
	return v
}

func (x varier) varyFields(t T, v V, s string) V {
	var l []api.Field
	for _, f := range t.Fields {
		here := f.Name
		if s != "" {
			here = s + "." + f.Name
		}
		y, is := value.Field(v, f.Name)
		switch {
		case f.Need == api.Optional && x.isFree(f.Type, here) && x.r.Intn(2) == 0:
			if !is {
				l = append(l, field(f.Name, oneOf(x.r, f.Type)))
			}
		case is:
			l = append(l, field(f.Name, x.vary(f.Type, y, here)))
		}
	}
	return value.Record(l...)
}

// bodies returns environments with messages, one for each.
func bodies(l ...V) []V {
	var out []V
	for _, v := range l {
		out = append(out, value.Record(field("body", v), field("key", value.Int(1))))
	}
	return out
}

func TestP19_5Lost(t *testing.T) {
	r := rand.New(rand.NewSource(1))
	different, same := 0, 0
	for range 1500 {
		body := someFields(r, 4, api.Record)
		k := newMaker(r, environment(body))
		for range 8 {
			m, target := k.someMapping()
			lost, e := loss.Lost(m, body, "body")
			kept, f := loss.Kept(m, body, "body")
			if !slices.Equal(lost, lostAsDefined(m, body, "body")) || e != api.OK {
				t.Fatalf("Lost(%v, %v) = %v, %d, want %v", m, body, lost, e, lostAsDefined(m, body, "body"))
			}
			if !slices.Equal(kept, keptAsDefined(m, body, "body")) || f != api.OK {
				t.Fatalf("Kept(%v, %v) = %v, %d, want %v", m, body, kept, f, keptAsDefined(m, body, "body"))
			}
			v := oneOf(r, body)
			w := varier{r, lost}.vary(body, v, "")
			if !fit.Fits(body, w) {
				t.Fatalf("%v does not fit %v", w, body)
			}
			l := bodies(v, w)
			x, e := mapping.Apply(m, l[0], target)
			y, f := mapping.Apply(m, l[1], target)
			if !value.Equal(x, y) || e != f {
				t.Fatalf("%v makes %v, %d of %v, and %v, %d of %v; it loses %v", m, x, e, v, y, f, w, lost)
			}
			if !value.Equal(v, w) && len(kept) > 0 {
				different++
				if e == api.OK {
					same++
				}
			}
		}
	}
	if different < 2000 || same < 1000 {
		t.Error(different, same)
	}
}

// varyDropped returns a value that differs only in fields that a new type drops.
func varyDropped(r *rand.Rand, old, new T, v V) V {
	if old.Kind != new.Kind {
		return v
	}
	switch old.Kind {
	case api.List:
		l := make([]V, len(v.List))
		for i, x := range v.List {
			l[i] = varyDropped(r, old.Elem[0], new.Elem[0], x)
		}
		return value.List(l...)
	case api.Variant:
		f, _ := schema.Field(old, v.Text)
		if g, is := schema.Numbered(new, f.Number); is {
			return value.Variant(v.Text, varyDropped(r, f.Type, g.Type, v.List[0]))
		}
		return v
	case api.Record:
		var l []api.Field
		for _, f := range old.Fields {
			x, is := value.Field(v, f.Name)
			g, isKept := schema.Numbered(new, f.Number)
			switch {
			case isKept && is:
				l = append(l, field(f.Name, varyDropped(r, f.Type, g.Type, x)))
			case !isKept && (f.Need != api.Optional || r.Intn(2) == 0):
				l = append(l, field(f.Name, oneOf(r, f.Type)))
			}
		}
		return value.Record(l...)
	}
	return v
}

func TestP19_5Dropped(t *testing.T) {
	r := rand.New(rand.NewSource(2))
	upgraded, failed, nested := 0, 0, 0
	for range 40000 {
		old := some(r, 4)
		new := changed(r, old)
		for range r.Intn(3) {
			new = changed(r, new)
		}
		if schema.Check(new) != api.OK {
			continue
		}
		l, e := loss.Dropped(old, new)
		if want := droppedAsDefined(old, new); !slices.Equal(l, want) || e != api.OK {
			t.Fatalf("Dropped(%v, %v) = %v, %d, want %v", old, new, l, e, want)
		}
		if back, e := loss.Dropped(new, old); !slices.Equal(back, droppedAsDefined(new, old)) || e != api.OK {
			t.Fatalf("Dropped(%v, %v) = %v, %d", new, old, back, e)
		}
		v := oneOf(r, old)
		w := varyDropped(r, old, new, v)
		x, e := evolve.Upgrade(old, new, v)
		y, f := evolve.Upgrade(old, new, w)
		if !value.Equal(x, y) || e != f || e == api.ErrType {
			t.Fatalf("from %v to %v, %v is upgraded to %v, %d, and %v to %v, %d", old, new, v, x, e, w, y, f)
		}
		switch {
		case value.Equal(v, w):
			continue
		case len(l) == 0:
			t.Fatalf("from %v to %v, %v and %v differ, but nothing is dropped", old, new, v, w)
		case e == api.OK:
			upgraded++
		default:
			failed++
		}
		if old.Kind != api.Record {
			nested++
		}
	}
	if upgraded < 500 || failed < 50 || nested < 50 {
		t.Error(upgraded, failed, nested)
	}
}

// someChain returns mappings one behind the other, and their types.
func someChain(r *rand.Rand) ([]M, []T) {
	var l []M
	types := []T{someFields(r, 4, api.Record)}
	for i := range r.Intn(4) {
		m, t := newMaker(r, environment(types[i])).someMapping()
		if schema.Check(environment(t)) != api.OK {
			break // it is too deep
		}
		l, types = append(l, m), append(types, t)
	}
	return l, types
}

// applied returns what the mappings of a chain make of a message.
func applied(l []M, types []T, v V) (V, api.Errno) {
	e := api.OK
	for i, m := range l {
		if v, e = mapping.Apply(m, bodies(v)[0], types[i+1]); e != api.OK {
			return V{}, e
		}
	}
	return v, api.OK
}

func TestP19_5Chain(t *testing.T) {
	r := rand.New(rand.NewSource(3))
	found := map[int]int{}
	for range 4000 {
		l, types := someChain(r)
		got, e := loss.Chain(l, types)
		if want := chainAsDefined(l, types); !slices.Equal(got, want) || e != api.OK {
			t.Fatalf("Chain(%v, %v) = %v, %d, want %v", l, types, got, e, want)
		}
		for range 3 {
			v := oneOf(r, types[0])
			w := varier{r, got}.vary(types[0], v, "")
			x, e := applied(l, types, v)
			y, f := applied(l, types, w)
			if e != api.OK || f != api.OK {
				continue
			}
			if !value.Equal(x, y) {
				t.Fatalf("%v makes %v of %v, and %v of %v; it does not need %v", l, x, v, y, w, got)
			}
			if !value.Equal(v, w) && len(got) < len(schema.Leaves(types[0])) {
				found[len(l)]++
			}
		}
	}
	if found[1] < 150 || found[2] < 100 || found[3] < 30 {
		t.Error(found)
	}
}

func TestP19_5Compose(t *testing.T) {
	r := rand.New(rand.NewSource(4))
	found := map[api.Errno]int{}
	same, large := 0, 0
	for range 4000 {
		k := newMaker(r, environment(someFields(r, 3, api.Record)))
		first, mid := k.someMapping()
		inner := newMaker(r, record(required("body", mid)))
		for range 10 {
			second, last := inner.someMapping()
			second.Rules = second.Rules[:r.Intn(len(second.Rules)+1)]
			m, e := loss.Compose(first, second, mid)
			if want, f := composeAsDefined(first, second, mid); !mapping.Equal(m, want) || e != f {
				t.Fatalf("Compose(%v, %v, %v) = %v, %d, want %v, %d", first, second, mid, m, e, want, f)
			}
			found[e]++
			if e != api.OK {
				continue
			}
			env := oneOf(r, k.env)
			x, e := mapping.Apply(first, env, mid)
			y, f := mapping.Apply(second, value.Record(field("body", x)), last)
			if e != api.OK || f != api.OK {
				continue
			}
			if z, e := mapping.Apply(m, env, last); !value.Equal(z, y) || e != api.OK {
				t.Fatalf("%v makes %v of %v, %v makes %v of it, but %v makes %v, %d", first, x, env, second, y, m, z, e)
			}
			if len(m.Rules) > 0 {
				same++
			}
			if len(m.Rules) > 1 && len(y.Fields) > 1 {
				large++
			}
		}
	}
	if found[api.OK] < 2000 || found[api.ErrPath] < 2000 || found[api.ErrSyntax] < 50 || found[api.ErrType] < 20 || same < 2000 || large < 300 {
		t.Error(found, same, large)
	}
}

// spoilExpr overwrites the memory of an expression.
func spoilExpr(e E) {
	for i := range e.Args {
		spoilExpr(e.Args[i])
	}
	for i := range e.Value {
		clear(e.Value[i].List)
		clear(e.Value[i].Fields)
	}
	clear(e.Args)
	clear(e.Value)
}

func TestP19_5Memory(t *testing.T) {
	r := rand.New(rand.NewSource(5))
	composed := 0
	for range 1500 {
		l, types := someChain(r)
		if len(l) < 2 {
			continue
		}
		image := func() string { return fmt.Sprintf("%#v %#v", l, types) }
		before := image()
		same := func(what string) {
			t.Helper()
			if image() != before {
				t.Fatalf("%s has changed its arguments: %s, before %s", what, image(), before)
			}
		}
		lost, _ := loss.Lost(l[0], types[0], "body")
		kept, _ := loss.Kept(l[0], types[0], "body")
		dropped, _ := loss.Dropped(types[0], types[1])
		chain, _ := loss.Chain(l, types)
		clear(lost)
		clear(kept)
		clear(dropped)
		clear(chain)
		same("Chain")
		m, e := loss.Compose(l[0], l[1], types[1])
		same("Compose")
		if e == api.OK && len(m.Rules) > 0 {
			composed++
		}
		for _, x := range m.Rules {
			spoilExpr(x.Expr)
		}
		clear(m.Rules)
		same("Compose")
	}
	if composed < 100 {
		t.Error(composed)
	}
}

// TestP19_5MemoryOfResult finds memory that substitutes of the same path share.
func TestP19_5MemoryOfResult(t *testing.T) {
	shared := op(api.OpAdd, at("body.a"), num(1))
	mid := record(required("n", number(0, 9)), defaulted("d", number(0, 9), value.Int(1)))
	use := func(s string) E { return op(api.OpAdd, at(s), at(s)) }
	m, e := loss.Compose(rule("n", shared), rules(rule("x", use("body.n")), rule("y", use("body.n")), rule("z", use("body.d"))), mid)
	if e != api.OK || len(m.Rules) != 3 {
		t.Fatalf("Compose = %v, %d", m, e)
	}
	kept := mapping.Clone(m)
	spoilExpr(m.Rules[0].Expr.Args[0])
	if !mapping.Equal(M{Rules: m.Rules[1:]}, M{Rules: kept.Rules[1:]}) || !mapping.Equal(rule("x", m.Rules[0].Expr.Args[1]), rule("x", kept.Rules[0].Expr.Args[1])) {
		t.Error("substitutes of a path share memory")
	}
	spoilExpr(m.Rules[2].Expr.Args[0])
	if !mapping.Equal(rule("z", m.Rules[2].Expr.Args[1]), rule("z", kept.Rules[2].Expr.Args[1])) || mid.Fields[1].Default[0].Int != 1 {
		t.Error("defaults share memory")
	}
}
