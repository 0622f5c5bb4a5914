package decimal_test

import (
	"math/rand"
	"slices"
	"testing"

	"manifold/api"
	"manifold/decimal"
)

// small returns a number with which calculations seldom overflow.
func small(r *rand.Rand) N { return N{Int: r.Intn(2001) - 1000, Scale: r.Intn(5)} }

func TestP1_7Order(t *testing.T) {
	r := rand.New(rand.NewSource(4))
	for range 50000 {
		a, b, c := small(r), small(r), small(r)
		ab, _ := decimal.Compare(a, b)
		ba, _ := decimal.Compare(b, a)
		bc, _ := decimal.Compare(b, c)
		ac, _ := decimal.Compare(a, c)
		if ab != -ba || ab <= 0 && bc <= 0 && ac > 0 {
			t.Fatalf("the order of %v, %v, %v", a, b, c)
		}
		d, e := decimal.Sub(a, b)
		if sign, _ := decimal.Compare(d, N{}); e != api.OK || sign != ab {
			t.Fatalf("Compare(%v, %v) = %d, but the difference is %v", a, b, ab, d)
		}
	}
}

func TestP1_7Arithmetic(t *testing.T) {
	r := rand.New(rand.NewSource(5))
	// both combines two calculations that may fail.
	both := func(f, g func(a, b N) (N, api.Errno), a, b, c N) (N, bool) {
		n, e := f(a, b)
		m, h := g(n, c)
		return m, e == api.OK && h == api.OK
	}
	swapped := func(f func(a, b N) (N, api.Errno)) func(a, b N) (N, api.Errno) {
		return func(a, b N) (N, api.Errno) { return f(b, a) }
	}
	for range 50000 {
		a, b, c := small(r), small(r), small(r)
		for _, op := range []func(a, b N) (N, api.Errno){decimal.Add, decimal.Mul} {
			x, e := op(a, b)
			y, f := op(b, a)
			if x != y || e != f {
				t.Fatalf("commutativity of %v, %v: %v, %v", a, b, x, y)
			}
			left, ok := both(op, op, a, b, c)
			right, fine := both(op, swapped(op), b, c, a)
			if ok && fine && left != right {
				t.Fatalf("associativity of %v, %v, %v: %v, %v", a, b, c, left, right)
			}
		}
		left, ok := both(decimal.Add, decimal.Mul, a, b, c)
		ac, e := decimal.Mul(a, c)
		bc, f := decimal.Mul(b, c)
		right, g := decimal.Add(ac, bc)
		if k, h := decimal.Compare(left, right); ok && e == api.OK && f == api.OK && g == api.OK && (k != 0 || h != api.OK) {
			t.Fatalf("distributivity of %v, %v, %v: %v, %v", a, b, c, left, right)
		}
		undone, ok := both(decimal.Add, decimal.Sub, a, b, b)
		if k, h := decimal.Compare(undone, a); ok && (k != 0 || h != api.OK) {
			t.Fatalf("%v + %v - %v = %v", a, b, b, undone)
		}
	}
}

func TestP1_7Rounding(t *testing.T) {
	r := rand.New(rand.NewSource(6))
	for range 50000 {
		n, scale := random(r), r.Intn(api.MaxScale+1)
		once, e := decimal.Round(n, scale)
		if e != api.OK {
			continue
		}
		if k, f := decimal.Compare(n, once); scale >= n.Scale && (k != 0 || f != api.OK) {
			t.Fatalf("Round(%v, %d) = %v", n, scale, once)
		}
		if twice, f := decimal.Round(once, scale); twice != once || f != api.OK {
			t.Fatalf("Round(%v, %d) = %v, and again %v, %d", n, scale, once, twice, f)
		}
	}
}

func TestP1_7SumHasNoOrder(t *testing.T) {
	r := rand.New(rand.NewSource(7))
	for range 2000 {
		l := make([]N, 1+r.Intn(30))
		for i := range l {
			l[i] = random(r)
			l[i].Scale %= 3
		}
		want, e := decimal.Sum(l)
		kept := slices.Clone(l)
		slices.Reverse(l)
		if n, f := decimal.Sum(l); n != want || e != f {
			t.Fatalf("Sum(%v) = %v, %d; in reverse %v, %d", kept, want, e, n, f)
		}
		r.Shuffle(len(l), func(i, j int) { l[i], l[j] = l[j], l[i] })
		shuffled := slices.Clone(l)
		if n, f := decimal.Sum(l); n != want || e != f {
			t.Fatalf("Sum(%v) = %v, %d; shuffled %v, %d", kept, want, e, n, f)
		}
		if !slices.Equal(l, shuffled) {
			t.Fatal("Sum has changed its argument")
		}
	}
}
