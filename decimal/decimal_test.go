package decimal_test

import (
	"math"
	"math/big"
	"math/rand"
	"testing"

	"manifold/api"
	"manifold/decimal"
)

// N is a short name for the numbers of the tables.
type N = api.Number

// invalid are numbers that no function but Check takes.
var invalid = []N{
	{Int: api.MaxNumber + 1}, {Int: -api.MaxNumber - 1}, {Int: math.MaxInt}, {Int: math.MinInt},
	{Scale: -1}, {Scale: api.MaxScale + 1}, {Scale: math.MaxInt}, {Scale: math.MinInt},
	{Int: math.MinInt, Scale: math.MinInt}, {Int: api.MaxNumber + 1, Scale: api.MaxScale},
}

// interesting are the Ints at which rounding, carrying and the limits show.
var interesting = []int{
	0, 1, -1, 2, -2, 3, 5, -5, 7, 8, 9, 10, -10, 15, -15, 25, -25, 35, 49, 50, -50, 51, 99, 100, 125, -250,
	999, 1000, 1001, -1050, 31622776, 31622777, -31622777, 123456789, 1 << 32, 1000000000000, -1000000000001,
	333333333333333, -499999999999999, 500000000000000, 500000000000001, 99999999999999, 100000000000000,
	999999999999998, api.MaxNumber, -api.MaxNumber,
}

// numbers returns the numbers with interesting Ints and some scales.
func numbers(scales ...int) []N {
	var l []N
	for _, i := range interesting {
		for _, s := range scales {
			l = append(l, N{Int: i, Scale: s})
		}
	}
	return l
}

// random returns a valid number; the numbers of digits are distributed evenly.
func random(r *rand.Rand) N {
	limit := int64(1)
	for range 1 + r.Intn(15) {
		limit *= 10
	}
	i := int(r.Int63n(limit))
	if r.Intn(2) == 0 {
		i = -i
	}
	return N{Int: i, Scale: r.Intn(api.MaxScale + 1)}
}

// eachPair calls f for pairs of interesting numbers, and of random ones.
func eachPair(f func(a, b N)) {
	l := numbers(0, 1, 2, 3, 6, 7, 11, 12)
	for _, a := range l {
		for _, b := range l {
			f(a, b)
		}
	}
	r := rand.New(rand.NewSource(1))
	for range 100000 {
		f(random(r), random(r))
	}
}

func power(n int) *big.Int { return new(big.Int).Exp(big.NewInt(10), big.NewInt(int64(n)), nil) }

// atScale returns the Int of a number that is brought to a greater scale.
func atScale(n N, scale int) *big.Int {
	return new(big.Int).Mul(big.NewInt(int64(n.Int)), power(scale-n.Scale))
}

// fitted returns the number with an Int and a scale, or ErrOverflow.
func fitted(x *big.Int, scale int) (N, api.Errno) {
	if scale > api.MaxScale || x.CmpAbs(big.NewInt(api.MaxNumber)) > 0 {
		return N{}, api.ErrOverflow
	}
	return N{Int: int(x.Int64()), Scale: scale}, api.OK
}

// halfEven returns the quotient of two integers, rounded half to even.
func halfEven(x, y *big.Int) *big.Int {
	q, r := new(big.Int).DivMod(new(big.Int).Mul(x, big.NewInt(int64(y.Sign()))), new(big.Int).Abs(y), new(big.Int))
	twice := new(big.Int).Lsh(r, 1)
	if c := twice.CmpAbs(y); c > 0 || c == 0 && q.Bit(0) == 1 {
		q.Add(q, big.NewInt(1))
	}
	return q
}

func TestP1_1Check(t *testing.T) {
	for _, n := range []N{{}, {Int: 1}, {Int: api.MaxNumber}, {Int: -api.MaxNumber}, {Scale: api.MaxScale}, {Int: -api.MaxNumber, Scale: api.MaxScale}} {
		if e := decimal.Check(n); e != api.OK {
			t.Errorf("Check(%v) = %d", n, e)
		}
	}
	for _, n := range invalid {
		if e := decimal.Check(n); e != api.ErrRange {
			t.Errorf("Check(%v) = %d", n, e)
		}
	}
}

func TestP1_1Normal(t *testing.T) {
	for _, c := range []struct{ n, want N }{
		{N{}, N{}}, {N{Scale: 12}, N{}}, {N{Int: 1200, Scale: 3}, N{Int: 12, Scale: 1}}, {N{Int: -1200, Scale: 2}, N{Int: -12}},
		{N{Int: 1200, Scale: 1}, N{Int: 120}}, {N{Int: 1200}, N{Int: 1200}}, {N{Int: 5, Scale: 12}, N{Int: 5, Scale: 12}},
		{N{Int: 100000000000000, Scale: 12}, N{Int: 100}}, {N{Int: 105, Scale: 2}, N{Int: 105, Scale: 2}},
	} {
		if n, e := decimal.Normal(c.n); n != c.want || e != api.OK {
			t.Errorf("Normal(%v) = %v, %d", c.n, n, e)
		}
	}
	for _, n := range invalid {
		if got, e := decimal.Normal(n); got != (N{}) || e != api.ErrRange {
			t.Errorf("Normal(%v) = %v, %d", n, got, e)
		}
	}
}

func TestP1_1Negate(t *testing.T) {
	for _, c := range []struct{ n, want N }{
		{N{}, N{}}, {N{Scale: 3}, N{Scale: 3}}, {N{Int: 5, Scale: 1}, N{Int: -5, Scale: 1}}, {N{Int: -50, Scale: 1}, N{Int: 50, Scale: 1}},
		{N{Int: api.MaxNumber}, N{Int: -api.MaxNumber}}, {N{Int: -api.MaxNumber, Scale: 12}, N{Int: api.MaxNumber, Scale: 12}},
	} {
		if n, e := decimal.Negate(c.n); n != c.want || e != api.OK {
			t.Errorf("Negate(%v) = %v, %d", c.n, n, e)
		}
	}
	for _, n := range invalid {
		if got, e := decimal.Negate(n); got != (N{}) || e != api.ErrRange {
			t.Errorf("Negate(%v) = %v, %d", n, got, e)
		}
	}
}

func TestP1_1Floor(t *testing.T) {
	for _, c := range []struct {
		n    N
		want int
	}{
		{N{}, 0}, {N{Scale: 12}, 0}, {N{Int: 7}, 7}, {N{Int: -7}, -7}, {N{Int: 19, Scale: 1}, 1}, {N{Int: 20, Scale: 1}, 2},
		{N{Int: -11, Scale: 1}, -2}, {N{Int: -19, Scale: 1}, -2}, {N{Int: -20, Scale: 1}, -2}, {N{Int: 1, Scale: 12}, 0}, {N{Int: -1, Scale: 12}, -1},
		{N{Int: api.MaxNumber}, api.MaxNumber}, {N{Int: -api.MaxNumber}, -api.MaxNumber}, {N{Int: -api.MaxNumber, Scale: 12}, -1000},
	} {
		if n, e := decimal.Floor(c.n); n != c.want || e != api.OK {
			t.Errorf("Floor(%v) = %d, %d", c.n, n, e)
		}
	}
	for _, n := range numbers(0, 1, 2, 5, 11, 12) {
		want := new(big.Int).Div(big.NewInt(int64(n.Int)), power(n.Scale))
		if k, e := decimal.Floor(n); int64(k) != want.Int64() || e != api.OK {
			t.Errorf("Floor(%v) = %d, %d", n, k, e)
		}
	}
	for _, n := range invalid {
		if got, e := decimal.Floor(n); got != 0 || e != api.ErrRange {
			t.Errorf("Floor(%v) = %d, %d", n, got, e)
		}
	}
}

func TestP1_2Compare(t *testing.T) {
	for _, c := range []struct {
		a, b N
		want int
	}{
		{N{Int: 50, Scale: 1}, N{Int: 5}, 0}, {N{Scale: 3}, N{}, 0}, {N{Int: -1, Scale: 12}, N{}, -1}, {N{Int: 1, Scale: 12}, N{Scale: 2}, 1},
		{N{Int: 49, Scale: 1}, N{Int: 5}, -1}, {N{Int: -49, Scale: 1}, N{Int: -5}, 1}, {N{Int: 2}, N{Int: 19, Scale: 1}, 1},
		{N{Int: api.MaxNumber}, N{Int: api.MaxNumber, Scale: 12}, 1}, {N{Int: -api.MaxNumber}, N{Int: api.MaxNumber, Scale: 12}, -1},
		{N{Int: api.MaxNumber}, N{Int: -api.MaxNumber}, 1}, {N{Int: 100}, N{Int: 100000000000000, Scale: 12}, 0}, {N{Int: -3}, N{Int: 2}, -1},
	} {
		if k, e := decimal.Compare(c.a, c.b); k != c.want || e != api.OK {
			t.Errorf("Compare(%v, %v) = %d, %d", c.a, c.b, k, e)
		}
	}
	eachPair(func(a, b N) {
		want := atScale(a, api.MaxScale).Cmp(atScale(b, api.MaxScale))
		if k, e := decimal.Compare(a, b); k != want || e != api.OK {
			t.Fatalf("Compare(%v, %v) = %d, %d", a, b, k, e)
		}
	})
	for _, n := range invalid {
		if k, e := decimal.Compare(n, N{}); k != 0 || e != api.ErrRange {
			t.Errorf("Compare(%v, 0) = %d, %d", n, k, e)
		}
		if k, e := decimal.Compare(N{Int: 1}, n); k != 0 || e != api.ErrRange {
			t.Errorf("Compare(1, %v) = %d, %d", n, k, e)
		}
	}
}

// operations are the functions of P1.3, with what they have to return.
var operations = []struct {
	name string
	f    func(a, b N) (N, api.Errno)
	want func(a, b N) (N, api.Errno)
}{
	{"Add", decimal.Add, func(a, b N) (N, api.Errno) {
		scale := max(a.Scale, b.Scale)
		return fitted(new(big.Int).Add(atScale(a, scale), atScale(b, scale)), scale)
	}},
	{"Sub", decimal.Sub, func(a, b N) (N, api.Errno) {
		scale := max(a.Scale, b.Scale)
		return fitted(new(big.Int).Sub(atScale(a, scale), atScale(b, scale)), scale)
	}},
	{"Mul", decimal.Mul, func(a, b N) (N, api.Errno) {
		return fitted(new(big.Int).Mul(big.NewInt(int64(a.Int)), big.NewInt(int64(b.Int))), a.Scale+b.Scale)
	}},
}

func TestP1_3Examples(t *testing.T) {
	for _, c := range []struct {
		f       func(a, b N) (N, api.Errno)
		a, b, n N
		e       api.Errno
	}{
		{decimal.Add, N{Int: 125, Scale: 2}, N{Int: 5, Scale: 1}, N{Int: 175, Scale: 2}, api.OK},
		{decimal.Add, N{Int: 5, Scale: 1}, N{Int: 5, Scale: 1}, N{Int: 10, Scale: 1}, api.OK},
		{decimal.Add, N{Int: 5, Scale: 3}, N{Int: -5, Scale: 3}, N{Scale: 3}, api.OK},
		{decimal.Add, N{Int: api.MaxNumber}, N{}, N{Int: api.MaxNumber}, api.OK},
		{decimal.Add, N{Int: api.MaxNumber}, N{Int: 1}, N{}, api.ErrOverflow},
		{decimal.Add, N{Int: -api.MaxNumber}, N{Int: -1}, N{}, api.ErrOverflow},
		{decimal.Add, N{Int: api.MaxNumber}, N{Scale: 12}, N{}, api.ErrOverflow},
		{decimal.Sub, N{Int: 1, Scale: 1}, N{Int: 1}, N{Int: -9, Scale: 1}, api.OK},
		{decimal.Sub, N{Int: 1}, N{Int: 1, Scale: 1}, N{Int: 9, Scale: 1}, api.OK},
		{decimal.Sub, N{Int: -api.MaxNumber}, N{Int: 1}, N{}, api.ErrOverflow},
		{decimal.Sub, N{Int: api.MaxNumber}, N{Int: -1}, N{}, api.ErrOverflow},
		{decimal.Mul, N{Int: 15, Scale: 1}, N{Int: 15, Scale: 1}, N{Int: 225, Scale: 2}, api.OK},
		{decimal.Mul, N{Int: -15, Scale: 1}, N{Int: 20}, N{Int: -300, Scale: 1}, api.OK},
		{decimal.Mul, N{Int: -1, Scale: 6}, N{Int: -1, Scale: 6}, N{Int: 1, Scale: 12}, api.OK},
		{decimal.Mul, N{Int: 1, Scale: 7}, N{Int: 1, Scale: 6}, N{}, api.ErrOverflow},
		{decimal.Mul, N{Scale: 12}, N{Scale: 1}, N{}, api.ErrOverflow},
		{decimal.Mul, N{Int: api.MaxNumber}, N{Int: -api.MaxNumber}, N{}, api.ErrOverflow},
		{decimal.Mul, N{Int: 1 << 40}, N{Int: 1 << 40}, N{}, api.ErrOverflow},
		{decimal.Mul, N{Int: 1 << 32}, N{Int: 1 << 32}, N{}, api.ErrOverflow},
	} {
		if n, e := c.f(c.a, c.b); n != c.n || e != c.e {
			t.Errorf("%v, %v: %v, %d", c.a, c.b, n, e)
		}
	}
}

func TestP1_3Exact(t *testing.T) {
	for _, op := range operations {
		eachPair(func(a, b N) {
			want, f := op.want(a, b)
			if n, e := op.f(a, b); n != want || e != f {
				t.Fatalf("%s(%v, %v) = %v, %d; want %v, %d", op.name, a, b, n, e, want, f)
			}
		})
		for _, n := range invalid {
			if got, e := op.f(n, N{Int: 1}); got != (N{}) || e != api.ErrRange {
				t.Errorf("%s(%v, 1) = %v, %d", op.name, n, got, e)
			}
			if got, e := op.f(N{Int: api.MaxNumber, Scale: 12}, n); got != (N{}) || e != api.ErrRange {
				t.Errorf("%s(max, %v) = %v, %d", op.name, n, got, e)
			}
		}
	}
}

// many returns a list that repeats a number.
func many(n N, count int) []N {
	l := make([]N, count)
	for i := range l {
		l[i] = n
	}
	return l
}

func TestP1_4Sum(t *testing.T) {
	top := N{Int: api.MaxNumber}
	bottom := N{Int: -api.MaxNumber}
	half := append(many(top, 128), many(bottom, 128)...)
	for i, c := range []struct {
		l []N
		n N
		e api.Errno
	}{
		{nil, N{}, api.OK}, {[]N{}, N{}, api.OK}, {[]N{{Int: 5, Scale: 1}}, N{Int: 5, Scale: 1}, api.OK},
		{[]N{{Int: 5, Scale: 1}, {Scale: 3}, {Int: 2}}, N{Int: 2500, Scale: 3}, api.OK},
		{[]N{{Int: 5, Scale: 1}, {Int: -5, Scale: 1}}, N{Scale: 1}, api.OK},
		{[]N{top, top, bottom}, top, api.OK}, {[]N{top, {Int: 1}}, N{}, api.ErrOverflow}, {[]N{bottom, {Int: -1}}, N{}, api.ErrOverflow},
		{[]N{top, {Scale: 1}}, N{}, api.ErrOverflow}, {half, N{}, api.OK}, {many(top, 256), N{}, api.ErrOverflow}, {many(bottom, 256), N{}, api.ErrOverflow},
		{many(N{Int: 3, Scale: 2}, 256), N{Int: 768, Scale: 2}, api.OK}, {many(N{}, 257), N{}, api.ErrLimit},
		{many(invalid[0], 257), N{}, api.ErrLimit}, {many(top, 257), N{}, api.ErrLimit},
		{append(many(top, 255), N{Scale: 13}), N{}, api.ErrRange}, {[]N{{Scale: -1}, top, top}, N{}, api.ErrRange},
		// The partial sums need more than 64 bits at the scale 12.
		{append(append([]N{{Int: 7, Scale: 12}}, many(top, 100)...), many(bottom, 100)...), N{Int: 7, Scale: 12}, api.OK},
		{append(append([]N{{Int: -7, Scale: 12}}, many(bottom, 100)...), many(top, 100)...), N{Int: -7, Scale: 12}, api.OK},
		{append([]N{{Int: 7, Scale: 12}}, many(top, 255)...), N{}, api.ErrOverflow},
	} {
		if n, e := decimal.Sum(c.l); n != c.n || e != c.e {
			t.Errorf("%d: %v, %d", i, n, e)
		}
	}
	for _, n := range invalid {
		if got, e := decimal.Sum([]N{{Int: 1}, n}); got != (N{}) || e != api.ErrRange {
			t.Errorf("Sum with %v: %v, %d", n, got, e)
		}
	}
}

func TestP1_4SumExact(t *testing.T) {
	r := rand.New(rand.NewSource(2))
	for range 5000 {
		l := make([]N, r.Intn(20))
		scale := 0
		for i := range l {
			l[i] = random(r)
			l[i].Int >>= r.Intn(40)
			scale = max(scale, l[i].Scale)
		}
		sum := new(big.Int)
		for _, n := range l {
			sum.Add(sum, atScale(n, scale))
		}
		want, f := fitted(sum, scale)
		if n, e := decimal.Sum(l); n != want || e != f {
			t.Fatalf("Sum(%v) = %v, %d; want %v, %d", l, n, e, want, f)
		}
	}
}

func TestP1_5Div(t *testing.T) {
	for i, c := range []struct {
		a, b  N
		scale int
		n     N
		e     api.Errno
	}{
		{N{Int: 1}, N{Int: 3}, 2, N{Int: 33, Scale: 2}, api.OK}, {N{Int: 2}, N{Int: 3}, 2, N{Int: 67, Scale: 2}, api.OK},
		{N{Int: -2}, N{Int: 3}, 2, N{Int: -67, Scale: 2}, api.OK}, {N{Int: 2}, N{Int: -3}, 2, N{Int: -67, Scale: 2}, api.OK},
		{N{Int: -2}, N{Int: -3}, 2, N{Int: 67, Scale: 2}, api.OK}, {N{Int: 1}, N{Int: 8}, 2, N{Int: 12, Scale: 2}, api.OK},
		{N{Int: 3}, N{Int: 8}, 2, N{Int: 38, Scale: 2}, api.OK}, {N{Int: -1}, N{Int: 8}, 2, N{Int: -12, Scale: 2}, api.OK},
		{N{}, N{Int: 7}, 5, N{Scale: 5}, api.OK}, {N{Scale: 12}, N{Int: -7}, 0, N{}, api.OK},
		{N{Int: 1}, N{Int: -2}, 0, N{}, api.OK}, {N{Int: -3}, N{Int: 2}, 0, N{Int: -2}, api.OK}, {N{Int: 5}, N{Int: 2}, 0, N{Int: 2}, api.OK},
		{N{Int: 1}, N{Int: api.MaxNumber}, 12, N{Scale: 12}, api.OK}, {N{Int: 1, Scale: 12}, N{Int: api.MaxNumber}, 0, N{}, api.OK},
		{N{Int: 1, Scale: 12}, N{Int: 1, Scale: 12}, 12, N{Int: 1000000000000, Scale: 12}, api.OK},
		{N{Int: 1}, N{Int: api.MaxNumber, Scale: 12}, 12, N{Int: 1000000000, Scale: 12}, api.OK},
		{N{Int: 1000}, N{Int: 1, Scale: 12}, 0, N{}, api.ErrOverflow}, {N{Int: -1000}, N{Int: 1, Scale: 12}, 0, N{}, api.ErrOverflow},
		{N{Int: api.MaxNumber}, N{Int: 1, Scale: 12}, 12, N{}, api.ErrOverflow}, {N{Int: 1}, N{Int: 1, Scale: 12}, 12, N{}, api.ErrOverflow},
		// 18446745 * 10^12 is a little more than 2^64.
		{N{Int: api.MaxNumber, Scale: 12}, N{Int: 18446745}, 0, N{}, api.OK}, {N{Int: -api.MaxNumber, Scale: 12}, N{Int: 18446745}, 0, N{}, api.OK},
		// The products of these Ints and 10^24 are a little more than multiples of 2^128.
		{N{Int: 340282366920939}, N{Int: api.MaxNumber, Scale: 12}, 12, N{}, api.ErrOverflow}, {N{Int: 680564733841877}, N{Int: -api.MaxNumber, Scale: 12}, 12, N{}, api.ErrOverflow},
		{N{Int: api.MaxNumber}, N{Int: 1}, 0, N{Int: api.MaxNumber}, api.OK}, {N{Int: api.MaxNumber}, N{Int: 9, Scale: 1}, 0, N{}, api.ErrOverflow},
		// These quotients are a little less than 2^64 and are rounded to it.
		{N{Int: 15047865020907}, N{Int: 8157463973468, Scale: 12}, 7, N{}, api.ErrOverflow}, {N{Int: -15047865020907}, N{Int: 8157463973468, Scale: 7}, 12, N{}, api.ErrOverflow},
		{N{Int: 414593683177673}, N{Int: 224751686, Scale: 1}, 12, N{}, api.ErrOverflow}, {N{Int: 414593683177673}, N{Int: -224751686, Scale: 12}, 1, N{}, api.ErrOverflow},
		{N{Int: 1}, N{}, 2, N{}, api.ErrDivide}, {N{}, N{Scale: 12}, 0, N{}, api.ErrDivide}, {N{Int: api.MaxNumber}, N{}, 12, N{}, api.ErrDivide},
		{N{Int: 1}, N{}, 13, N{}, api.ErrRange}, {N{Int: 1}, N{Int: 1}, 13, N{}, api.ErrRange}, {N{Int: 1}, N{Int: 1}, -1, N{}, api.ErrRange},
		{N{Int: 1}, N{Int: 1}, math.MaxInt, N{}, api.ErrRange}, {N{Int: 1}, N{Int: 1}, math.MinInt, N{}, api.ErrRange},
	} {
		if n, e := decimal.Div(c.a, c.b, c.scale); n != c.n || e != c.e {
			t.Errorf("%d: %v, %d", i, n, e)
		}
	}
	for _, n := range invalid {
		if got, e := decimal.Div(n, N{}, 0); got != (N{}) || e != api.ErrRange {
			t.Errorf("Div(%v, 0, 0) = %v, %d", n, got, e)
		}
		if got, e := decimal.Div(N{Int: 1}, n, 0); got != (N{}) || e != api.ErrRange {
			t.Errorf("Div(1, %v, 0) = %v, %d", n, got, e)
		}
	}
}

// checkDiv compares a quotient with that of package big.
func checkDiv(t *testing.T, a, b N, scale int) {
	t.Helper()
	x := new(big.Int).Mul(big.NewInt(int64(a.Int)), power(b.Scale+scale))
	y := new(big.Int).Mul(big.NewInt(int64(b.Int)), power(a.Scale))
	want, f := fitted(halfEven(x, y), scale)
	if n, e := decimal.Div(a, b, scale); n != want || e != f {
		t.Fatalf("Div(%v, %v, %d) = %v, %d; want %v, %d", a, b, scale, n, e, want, f)
	}
}

// nearest returns the convergents of the continued fraction x / y whose two parts are Ints of numbers, without those with 0: no other fractions with such parts are as near to x / y.
func nearest(x, y *big.Int) (l [][2]int) {
	limit := big.NewInt(api.MaxNumber)
	p, q := [2]*big.Int{new(big.Int), big.NewInt(1)}, [2]*big.Int{big.NewInt(1), new(big.Int)}
	for y.Sign() != 0 {
		whole, rest := new(big.Int).QuoRem(x, y, new(big.Int))
		for _, part := range []*[2]*big.Int{&p, &q} {
			next := new(big.Int).Mul(whole, part[1])
			part[0], part[1] = part[1], next.Add(next, part[0])
		}
		if p[1].Cmp(limit) > 0 || q[1].Cmp(limit) > 0 {
			break
		}
		if p[1].Sign() != 0 {
			l = append(l, [2]int{int(p[1].Int64()), int(q[1].Int64())})
		}
		x, y = y, rest
	}
	return l
}

// eachScales calls f for all scales with which an Int divided by another one is multiplied by a power of ten.
func eachScales(exponent int, f func(a, b, scale int)) {
	for a := range api.MaxScale + 1 {
		for b := range api.MaxScale + 1 {
			if scale := exponent + a - b; scale >= 0 && scale <= api.MaxScale {
				f(a, b, scale)
			}
		}
	}
}

func TestP1_5DivNearLimits(t *testing.T) {
	two := func(n uint) *big.Int { return new(big.Int).Lsh(big.NewInt(1), n) }
	// The doubles of quotients at which rounding, the limit or the width of words show.
	doubles := []*big.Int{big.NewInt(1), big.NewInt(3), big.NewInt(2*api.MaxNumber - 1), big.NewInt(2*api.MaxNumber + 1), big.NewInt(2*api.MaxNumber + 2)}
	for _, n := range []uint{31, 32, 50, 53, 62, 63, 64, 65, 127, 128} {
		for _, d := range []int64{-1, 0, 1} {
			doubles = append(doubles, new(big.Int).Add(two(n+1), big.NewInt(d)))
		}
	}
	for exponent := -api.MaxScale; exponent <= 2*api.MaxScale; exponent++ {
		for _, d := range doubles {
			x, y := d, big.NewInt(2)
			if exponent >= 0 {
				y = new(big.Int).Mul(y, power(exponent))
			} else {
				x = new(big.Int).Mul(x, power(-exponent))
			}
			for _, c := range nearest(x, y) {
				eachScales(exponent, func(a, b, scale int) {
					checkDiv(t, N{Int: c[0], Scale: a}, N{Int: c[1], Scale: b}, scale)
					checkDiv(t, N{Int: -c[0], Scale: a}, N{Int: c[1], Scale: b}, scale)
				})
			}
		}
	}
}

func TestP1_5DivExact(t *testing.T) {
	check := func(a, b N, scale int) {
		if b.Int != 0 {
			checkDiv(t, a, b, scale)
		}
	}
	l := numbers(0, 1, 5, 12)
	for _, a := range l {
		for _, b := range l {
			for _, scale := range []int{0, 1, 6, 12} {
				check(a, b, scale)
			}
		}
	}
	r := rand.New(rand.NewSource(3))
	for range 200000 {
		check(random(r), random(r), r.Intn(api.MaxScale+1))
	}
	// Quotients of small numbers are often halfway between two others.
	for a := -200; a <= 200; a++ {
		for b := -16; b <= 16; b++ {
			check(N{Int: a, Scale: 2}, N{Int: b}, 1)
		}
	}
}

func TestP1_5Round(t *testing.T) {
	for i, c := range []struct {
		n     N
		scale int
		want  N
		e     api.Errno
	}{
		{N{Int: 5, Scale: 1}, 0, N{}, api.OK}, {N{Int: 15, Scale: 1}, 0, N{Int: 2}, api.OK}, {N{Int: 25, Scale: 1}, 0, N{Int: 2}, api.OK},
		{N{Int: -5, Scale: 1}, 0, N{}, api.OK}, {N{Int: -15, Scale: 1}, 0, N{Int: -2}, api.OK}, {N{Int: -25, Scale: 1}, 0, N{Int: -2}, api.OK},
		{N{Int: 251, Scale: 2}, 0, N{Int: 3}, api.OK}, {N{Int: 249, Scale: 2}, 0, N{Int: 2}, api.OK}, {N{Int: -251, Scale: 2}, 0, N{Int: -3}, api.OK},
		{N{Int: 12345, Scale: 3}, 2, N{Int: 1234, Scale: 2}, api.OK}, {N{Int: 12355, Scale: 3}, 2, N{Int: 1236, Scale: 2}, api.OK},
		{N{Int: 7}, 2, N{Int: 700, Scale: 2}, api.OK}, {N{Int: 7, Scale: 2}, 2, N{Int: 7, Scale: 2}, api.OK}, {N{Scale: 12}, 0, N{}, api.OK},
		{N{Int: api.MaxNumber}, 0, N{Int: api.MaxNumber}, api.OK}, {N{Int: api.MaxNumber}, 1, N{}, api.ErrOverflow},
		{N{Int: api.MaxNumber, Scale: 12}, 0, N{Int: 1000}, api.OK}, {N{Int: -api.MaxNumber, Scale: 1}, 0, N{Int: -100000000000000}, api.OK},
		{N{Int: 99999999999999}, 1, N{Int: 999999999999990, Scale: 1}, api.OK}, {N{Int: 100000000000000}, 1, N{}, api.ErrOverflow},
		{N{Int: 1}, -1, N{}, api.ErrRange}, {N{Int: 1}, 13, N{}, api.ErrRange}, {N{Int: api.MaxNumber}, 13, N{}, api.ErrRange}, {N{Int: 1}, math.MinInt, N{}, api.ErrRange},
	} {
		if n, e := decimal.Round(c.n, c.scale); n != c.want || e != c.e {
			t.Errorf("%d: %v, %d", i, n, e)
		}
	}
	for _, n := range numbers(0, 1, 2, 3, 7, 12) {
		for scale := range api.MaxScale + 1 {
			want, f := fitted(halfEven(atScale(n, n.Scale+scale), power(n.Scale)), scale)
			if got, e := decimal.Round(n, scale); got != want || e != f {
				t.Errorf("Round(%v, %d) = %v, %d; want %v, %d", n, scale, got, e, want, f)
			}
		}
	}
	for _, n := range invalid {
		if got, e := decimal.Round(n, 0); got != (N{}) || e != api.ErrRange {
			t.Errorf("Round(%v, 0) = %v, %d", n, got, e)
		}
	}
}
