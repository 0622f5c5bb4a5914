package lexer_test

import (
	"math"
	"slices"
	"testing"

	"manifold/api"
	"manifold/lexer"
)

// expectState checks the error of a stream.
func expectState(t *testing.T, x *lexer.Stream, line, column int, e api.Errno) {
	t.Helper()
	if n, c, f := x.Error(); n != line || c != column || f != e {
		t.Errorf("Error() = %d, %d, %d, want %d, %d, %d", n, c, f, line, column, e)
	}
}

// expectOver checks that nothing can be taken from a stream any more.
func expectOver(t *testing.T, x *lexer.Stream) {
	t.Helper()
	line, column, e := x.Error()
	x.Expect("a")
	x.Fail(api.ErrName)
	if x.Peek() != (token{}) || x.Next() != (token{}) || x.Is("a") || x.Is("") || x.Accept("a") || x.Take(word) != (token{}) || x.Take(end) != (token{}) || x.Int(-9, 9) != 0 || x.Int(0, 9) != 0 {
		t.Error("something is there")
	}
	expectState(t, x, line, column, e)
}

func TestP15_5Next(t *testing.T) {
	for _, s := range []string{"", "a", "a.b \"c\" x\"00\" // d\n 1.5 >= e", " // a"} {
		l := scanned(t, s)
		x := lexer.New(s)
		for i, want := range l {
			if x.Peek() != want || x.Peek() != want || x.Next() != want {
				t.Errorf("%q: token %d", s, i)
			}
		}
		for range 3 {
			if x.Next() != l[len(l)-1] || x.Peek() != l[len(l)-1] {
				t.Errorf("%q: the end", s)
			}
		}
		expectState(t, x, 0, 0, api.OK)
	}
	for s, e := range map[string]api.Errno{"a\n #": api.ErrByte, "\n 00": api.ErrFormat} {
		x := lexer.New(s)
		expectState(t, x, 2, 2, e)
		expectOver(t, x)
	}
}

func TestP15_5Accept(t *testing.T) {
	x := lexer.New("a -> \"a\" 1 x\"\" b")
	if x.Is("b") || x.Is("") || x.Is("A") || x.Accept("->") || !x.Is("a") || !x.Accept("a") || x.Is("a") || x.Is("-") || !x.Is("->") || !x.Accept("->") {
		t.Error("words and symbols")
	}
	for _, kind := range []int{str, number, bytes} {
		if x.Is("a") || x.Is("") || x.Is("1") || x.Accept("a") || x.Accept("") || x.Accept("1") || x.Peek().Kind != kind || x.Next().Kind != kind {
			t.Error(kind)
		}
	}
	x.Expect("b")
	expectState(t, x, 0, 0, api.OK)
	if x.Is("") || x.Is("b") || x.Accept("") || x.Peek().Kind != end {
		t.Error("end")
	}
	x.Expect("b")
	expectState(t, x, 1, 17, api.ErrSyntax)
	expectOver(t, x)
	y := lexer.New("\n  a")
	y.Expect("b")
	expectState(t, y, 2, 3, api.ErrSyntax)
	expectOver(t, y)
}

func TestP15_6Take(t *testing.T) {
	s := "a 1d \"b\" x\"00\" ;"
	l := scanned(t, s)
	for i, want := range l {
		for kind := -1; kind <= 6; kind++ {
			x := lexer.New(s)
			for range i {
				x.Next()
			}
			got := x.Take(kind)
			if kind != want.Kind {
				if got != (token{}) {
					t.Error(i, kind, got)
				}
				expectState(t, x, want.Line, want.Column, api.ErrSyntax)
				expectOver(t, x)
				continue
			}
			if got != want || x.Peek() != l[min(i+1, len(l)-1)] {
				t.Error(i, kind, got)
			}
			expectState(t, x, 0, 0, api.OK)
		}
	}
}

func TestP15_6Int(t *testing.T) {
	for _, c := range []struct {
		s            string
		low, high, n int
		column       int
		e            api.Errno
	}{
		{"5", 0, 9, 5, 0, api.OK}, {"0", 0, 0, 0, 0, api.OK}, {"9", 0, 9, 9, 0, api.OK}, {"5d", 0, 9, 5, 0, api.OK}, {"-5", -9, 9, -5, 0, api.OK}, {"- 5", -5, -5, -5, 0, api.OK}, {"5", -9, 9, 5, 0, api.OK}, {"-0", -1, 0, 0, 0, api.OK}, {"-0", -9, -1, 0, 2, api.ErrRange}, {"999999999999999", 0, math.MaxInt, api.MaxNumber, 0, api.OK}, {"-999999999999999d", math.MinInt, 0, -api.MaxNumber, 0, api.OK},
		{"10", 0, 9, 0, 1, api.ErrRange}, {"1", 2, 9, 0, 1, api.ErrRange}, {"-6", -5, 5, 0, 2, api.ErrRange}, {"6", -5, 5, 0, 1, api.ErrRange}, {"-3", -9, -4, 0, 2, api.ErrRange}, {"3", 5, 1, 0, 1, api.ErrRange}, {"1.0", 0, 9, 0, 1, api.ErrRange}, {"0.0", 0, 9, 0, 1, api.ErrRange}, {"-1.5", -9, 9, 0, 2, api.ErrRange}, {"70.5", 0, 9, 0, 1, api.ErrRange},
		{"-5", 0, 9, 0, 1, api.ErrSyntax}, {"a", 0, 9, 0, 1, api.ErrSyntax}, {"", 0, 9, 0, 1, api.ErrSyntax}, {"-a", -9, 9, 0, 2, api.ErrSyntax}, {"- ", -9, 9, 0, 3, api.ErrSyntax}, {"--5", -9, 9, 0, 2, api.ErrSyntax}, {"\"5\"", 0, 9, 0, 1, api.ErrSyntax}, {"->5", -9, 9, 0, 1, api.ErrSyntax}, {"+5", -9, 9, 0, 1, api.ErrSyntax}, {"x\"05\"", 0, 9, 0, 1, api.ErrSyntax}, {"\"5\"", 5, 9, 0, 1, api.ErrSyntax},
	} {
		x := lexer.New(c.s + " then")
		column := c.column
		if c.s == "" || c.s == "- " {
			x = lexer.New(c.s)
		}
		if n := x.Int(c.low, c.high); n != c.n {
			t.Errorf("%q: Int(%d, %d) = %d, want %d", c.s, c.low, c.high, n, c.n)
		}
		if c.e == api.OK {
			expectState(t, x, 0, 0, api.OK)
			if !x.Is("then") {
				t.Errorf("%q: %v", c.s, x.Peek())
			}
			continue
		}
		expectState(t, x, 1, column, c.e)
		expectOver(t, x)
	}
}

func TestP15_7Fail(t *testing.T) {
	x := lexer.New("a\n b")
	x.Fail(api.OK)
	expectState(t, x, 0, 0, api.OK)
	x.Next()
	x.Fail(api.ErrName)
	expectState(t, x, 2, 2, api.ErrName)
	x.Fail(api.OK)
	x.Fail(api.ErrDepth)
	expectState(t, x, 2, 2, api.ErrName)
	expectOver(t, x)
	y := lexer.New("a")
	y.Next()
	y.Fail(99)
	expectState(t, y, 1, 2, 99)
	expectOver(t, y)
	z := lexer.New("#")
	z.Fail(api.ErrName)
	expectState(t, z, 1, 1, api.ErrByte)
}

func TestP15_7Nil(t *testing.T) {
	var x *lexer.Stream
	expectState(t, x, 0, 0, api.ErrArgument)
	expectOver(t, x)
	var zero lexer.Stream
	expectState(t, &zero, 0, 0, api.OK)
	if zero.Peek() != (token{}) || zero.Next() != (token{}) || zero.Is("") {
		t.Error("a stream without tokens")
	}
	expectOver(t, lexer.New("\""))
}

func TestP15_5Independent(t *testing.T) {
	x, y := lexer.New("a b"), lexer.New("a b")
	x.Next()
	x.Fail(api.ErrName)
	if !y.Accept("a") || !y.Accept("b") {
		t.Error("two streams are one")
	}
	l := scanned(t, "a b")
	again := scanned(t, "a b")
	l[0].Text = "c"
	if slices.Equal(l, again) || again[0].Text != "a" {
		t.Error("two results share memory")
	}
}
