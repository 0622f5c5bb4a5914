package parser_test

import (
	"reflect"
	"strconv"

	"strings"
	"testing"

	"manifold/api"
	"manifold/formula"
	"manifold/lexer"
	"manifold/parser"
	"manifold/schema"
	"manifold/value"
)

// cutMark returns a text without its mark, which is a ^, and the place at which the mark was.
func cutMark(t testing.TB, s string) (text string, line, column int) {
	t.Helper()
	before, behind, found := strings.Cut(s, "^")
	if !found {
		t.Fatalf("%q has no mark", s)
	}
	return before + behind, 1 + strings.Count(before, "\n"), len(before) - strings.LastIndex(before, "\n")
}

// expectError checks that a program has an error at the mark in its text.
func expectError(t testing.TB, s string, want api.Errno) {
	t.Helper()
	text, line, column := cutMark(t, s)
	p, gotLine, gotColumn, e := parser.Parse(text)
	if !reflect.DeepEqual(p, api.Program{}) || gotLine != line || gotColumn != column || e != want {
		t.Errorf("Parse(%.300q) = %+v, %d at %d, %d, want %d at %d, %d", text, p, e, gotLine, gotColumn, want, line, column)
	}
}

func TestP21_1LexerErrors(t *testing.T) {
	for s, e := range map[string]api.Errno{
		"program 1; ^#": api.ErrByte, "zz\n ^\\": api.ErrByte, "program ^01": api.ErrFormat, "program 1; route r from q { reject \"a^\n\"; }": api.ErrByte, "x; \"abc^": api.ErrTruncated, "program x\"0^\"": api.ErrSyntax, "^" + strings.Repeat("w", 65): api.ErrLong, "^" + strings.Repeat(" ", lexer.MaxSource+1): api.ErrLong, "program 1; " + strings.Repeat("a ", lexer.MaxTokens-3) + "^a": api.ErrLimit,
	} {
		expectError(t, s, e)
	}
}

func TestP21_1SyntaxOfDeclarations(t *testing.T) {
	for _, s := range []string{
		"^", "^1;", "^x", "^Program 1;", "^\"program\" 1;", "program ^", "program ^;", "program ^a;", "program ^-1;", "program ^\"1\";", "program 1^", "program 1 ^2;", "program 1 ^schema", "program 1; ^x", "program 1; ^;", "program 1; ^1", "program 1; ^\"schema\" a 1 bool;", "program 1; ^program 1;", "program 1; ^}", "program 1; ^steps", "program 1; ^Schema a 1 bool;",
		"program 1; schema ^", "program 1; schema ^1", "program 1; schema ^\"a\" 1 bool;", "program 1; schema a ^bool;", "program 1; schema a ^-1 bool;", "program 1; schema a 1 ^;", "program 1; schema a 1 ^x;", "program 1; schema a 1 bool^", "program 1; schema a 1 bool ^bool;", "program 1; schema a 1 bool ^schema",
		"program 1; source ^:", "program 1; source a ^b", "program 1; source a: ^1", "program 1; source a: b ^as", "program 1; source a: b ^: 1", "program 1; source a: b 1 ^tagged", "program 1; source a: b 1 ^as_ tagged;", "program 1; sink a: b 1 as ^;", "program 1; sink a: b 1 as ^fix(1);", "program 1; sink a: b 1 as ^\"tagged\";", "program 1; queue a: b 1 as tagged ^\";\";", "program 1; queue a: b 1 as tagged^", "program 1; queue a: b 1 as literal ^tagged;",
		"program 1; source a: b 1 as delimited ^;", "program 1; source a: b 1 as delimited ^1;", "program 1; source a: b 1 as delimited ^x\"3b\";", "program 1; source a: b 1 as delimited \";\"^", "program 1; source a: b 1 as fixed ^1;", "program 1; source a: b 1 as fixed^;", "program 1; source a: b 1 as fixed(^);", "program 1; source a: b 1 as fixed(1^;", "program 1; source a: b 1 as fixed(1, ^);", "program 1; source a: b 1 as fixed(1 ^2);", "program 1; source a: b 1 as fixed(^-1);", "program 1; source a: b 1 as fixed(^a);", "program 1; source a: b 1 as fixed(1) ^(2);",
		"program 1; service ^:", "program 1; service a ^b", "program 1; service a: ^->", "program 1; service a: b ^- c;", "program 1; service a: b ^c;", "program 1; service a: b -> ^;", "program 1; service a: b -> c^", "program 1; service a: b -> c ^un;", "program 1; service a: b -> c undo ^undo;", "program 1; service a: b -> c undo^",
		"program 1; route ^{", "program 1; route r ^q { }", "program 1; route r ^:", "program 1; route r from ^{ }", "program 1; route r from q ^;", "program 1; route r from q ^to x;", "program 1; route r from q {^", "program 1; route r from q { ^;", "program 1; route r from q { ^1", "program 1; route r from q { } ^;", "program 1; route r from q { } ^}", "program 1; route r from q { ^{ } }", "program 1; route r from q { ^\"to\" x; }",
		"program 1;\n// a\nroute r\n  from ^1", "program 1;\n\nschema a 1\n^", "program 1;\n\nschema a 1 // ;^",
	} {
		expectError(t, s, api.ErrSyntax)
	}
}

// inRoute returns the program with some steps, whose end is missing if there is a mark at the end of them.
func inRoute(steps string) string {
	text := "program 1;\nroute r from q { " + steps
	if strings.HasSuffix(steps, "^") {
		return text
	}
	return text + " }"
}

func TestP21_1SyntaxOfSteps(t *testing.T) {
	for _, s := range []string{
		// Words of steps, and names.
		"foo ^bar;", "foo^", "foo ^\"x\";", "foo: ^bar;", "foo: ^1", "foo: ^", "foo: ^bar: to x;", "foo: ^: to x;", "a ^b: to x;", "to: to ^: x;", "to: ^x;", "to: ^: to x;", "to:^", "To ^x;", "when ^a", "branch ^{", "otherwise ^{", "^: to x;", "^; to x;", "to x; ^;", "map to x { }; ^{", "foo ^\":\" to x;", "reason ^\"x\";", "foo ^= 1;", "^\"to\" x;", "^1: to x;",
		"filter ^;", "filter 1 + ^;", "filter a ^\"x\";", "filter a ^;", "filter a reason ^x;", "filter a reason ^;", "filter a reason \"x\"^", "filter a reason \"x\" ^\"y\";", "filter body. ^reason \"x\";", "filter body ^. reason \"x\";", "filter a ^b reason \"x\";", "filter (a ^reason \"x\";", "filter a in ^b reason \"x\";", "filter not ^;", "filter a = ^= b;",
		"map ^x { };", "map ^{ };", "map to ^: x { };", "map to ^{ };", "map to ^\"x\" { };", "map to x ^;", "map to x { }^", "map to x { } ^to y;", "map to x { ^;", "map to x { ^1 = 2; };", "map to x { ^\"a\" = 2; };", "map to x { a ^; };", "map to x { a ^1; };", "map to x { a ^: 1; };", "map to x { a = ^; };", "map to x { a = 1 ^} ;", "map to x { a = 1 ^b = 2; };", "map to x { a = 1; ^; };", "map to x { a = 1;^", "map to x { a. ^b = 1; };", "map to x { a ^.b = 1; };", "map to x { a.^1 = 1; };", "map to x { a.^[1] = 1; };", "map to x { a[^b] = 1; };", "map to x { a[1^= 1; };", "map to x { a[1 ^] = 1; };", "map to x { a[ ^1] = 1; };", "map to x { a[ ^*] = 1; };", "map to x { a[^-1] = 1; };", "map to x { a[* ^] = 1; };", "map to x { a[*^. = 1; };", "map to x { a[^] = 1; };", "map to x { a?^[ = 1; };", "map to x { a? ^b = 1; };", "map to x { a^, b = 1; };", "map to x { a^(b) = 1; };", "map to x { a.^", "map to x { a[^", "map to x { a^",
		"split to ^x { };", "split ^true to x { };", "split ^sum to x { };", "split body.l ^{ };", "split body.l to ^;", "split body.l ^;", "split ^(a) to x { };", "split a to x { } ^{", "split a. ^b to x { };", "split ^1 to x { };",
		"aggregate ^body.k limit 1 to x { };", "aggregate by ^;", "aggregate by a ^to x { };", "aggregate by a ^;", "aggregate by a when ^;", "aggregate by a when b ^when c limit 1 to x { };", "aggregate by a count ^within 1 limit 1 to x { };", "aggregate by a count 1 ^when b limit 1 to x { };", "aggregate by a within 1 ^count 1 limit 1 to x { };", "aggregate by a within ^x", "aggregate by a count 1 ^count 1", "aggregate by a limit 1 ^;", "aggregate by a limit ^to x { };", "aggregate by a limit 1 ^within 1 to x { };", "aggregate by a limit 1 to x { } ^limit 1;", "aggregate by a^, b", "aggregate by a count 1 within 1 ^within 1", "aggregate by a count 1^", "aggregate by a^",
		"order ^a", "order by a ^by b", "order by a ^limit 1;", "order by a number ^;", "order by a number b ^;", "order by a number b ^count 1 limit 1;", "order by a number b within 1 ^;", "order by a number b limit 1 ^to x { };", "order by a number b limit 1^", "order by number ^a number b limit 1;", "order by a ^b limit 1;",
		"unique ^a keep 1;", "unique by ^;", "unique by a ^;", "unique by a ^limit 1;", "unique by a keep ^;", "unique by a keep 1 ^limit 1;", "unique by a keep ^-1;", "unique by a keep ^- 1;", "unique by a keep ^\"1\";",
		"throttle ^per 1 limit 1;", "throttle 1 ^limit 1;", "throttle 1 per ^limit 1;", "throttle 1 per 1 ^;", "throttle 1 per 1 limit ^;", "throttle 1 per 1 limit 1^", "throttle ^- 1 per 1 limit 1;", "throttle 1 ^2 per 1 limit 1;",
		"delay ^limit 1;", "delay 1 ^per 1;", "delay 1 ^;", "delay 1 limit ^;", "delay 1 limit 1 ^2;", "delay ^within 1 limit 1;",
		"call ^{ } limit 1 to x { };", "call a ^limit 1 to x { };", "call a { } ^to x { };", "call a { } ^;", "call a { } limit 1 ^;", "call a { } limit 1 ^within 1 to x { };", "call a { } within 1 ^to x { };", "call a { } ^count 1 limit 1 to x { };", "call a { } ^call b { } limit 1 to x { };", "call a { b = ^} limit", "call a { } limit 1 to x { ^{", "call ^1 { }", "call a^: { }",
		"saga ^call a { } limit 1 to x { };", "saga { ^a { } } limit 1 to x { };", "saga { ^; } limit 1 to x { };", "saga { call ^} limit 1 to x { };", "saga { call a { } ^; } limit 1 to x { };", "saga { call a { } ^limit 1 } limit 1 to x { };", "saga { } ^to x { };", "saga { } ^;", "saga { } limit 1 ^;", "saga { call a { } ^saga { } }", "saga { call a { } ^within 1 }", "saga { } within 1 ^within 1", "saga { ^name: call a { } }", "saga {^",
		"choose ^;", "choose ^when a { }", "choose { ^;", "choose { ^branch { } }", "choose { ^name: when a { } }", "choose { when ^{ } }", "choose { when a ^; }", "choose { when a ^to x; }", "choose { when a { ^; } }", "choose { when a { } ^; }", "choose { otherwise ^a { } }", "choose { otherwise { } ^when a { } }", "choose { otherwise { } ^otherwise { } }", "choose { otherwise { } ^to x; }", "choose { } ^; to x;", "choose { when a { }^", "choose { when a {^", "choose {^", "choose { when a ^when b { } }", "choose { ^else { } }",
		"multicast ^;", "multicast ^branch { }", "multicast { ^when a { } }", "multicast { ^otherwise { } }", "multicast { branch ^to x; }", "multicast { branch ^a { } }", "multicast { branch { to x ^} }", "multicast { branch { } ^; }", "multicast { } ^;", "multicast { branch { }^", "multicast { branch^",
		"to ^;", "to ^\"x\";", "to ^1;", "to x ^y;", "to x^", "to x ^{", "reject ^;", "reject ^x;", "reject ^x\"00\";", "reject \"x\"^", "reject \"x\" ^\"y\";", "reject ^1;",
	} {
		expectError(t, inRoute(s), api.ErrSyntax)
	}
}

func TestP21_1Ranges(t *testing.T) {
	beyond := strconv.Itoa(api.MaxTime + 1)
	for _, n := range []string{"1.5", "1.0", "1d", "0d", beyond, "999999999999999", "0.0"} {
		for _, s := range []string{
			"program ^N;", "program 1; schema a ^N bool;", "program 1; schema a 1 record(^N a: bool);", "program 1; schema a 1 variant(1 a: bool, ^N b: bool);", "program 1; source a: b ^N as tagged;", "program 1; sink a: b 1 as fixed(^N);", "program 1; sink a: b 1 as fixed(1, ^N, 2);", "program 1; schema a 1 text(^N..2);", "program 1; schema a 1 text(0..^N);", "program 1; schema a 1 bytes(^N..2);", "program 1; schema a 1 bytes(0..^N);", "program 1; schema a 1 list(^N..1, bool);", "program 1; schema a 1 list(0..^N, bool);", "program 1; schema a 1 decimal(^N, 0..1);",
		} {
			expectError(t, strings.Replace(s, "N", n, 1), api.ErrRange)
		}
		for _, s := range []string{
			"aggregate by a count ^N limit 1 to x { };", "aggregate by a within ^N limit 1 to x { };", "aggregate by a limit ^N to x { };", "order by a number b within ^N limit 1;", "order by a number b limit ^N;", "unique by a keep ^N;", "throttle ^N per 1 limit 1;", "throttle 1 per ^N limit 1;", "throttle 1 per 1 limit ^N;", "delay ^N limit 1;", "delay 1 limit ^N;", "call a { } within ^N limit 1 to x { };", "call a { } limit ^N to x { };", "saga { } within ^N limit 1 to x { };", "saga { } limit ^N to x { };",
		} {
			expectError(t, inRoute(strings.Replace(s, "N", n, 1)), api.ErrRange)
		}
	}
	most := strconv.Itoa(api.MaxTime)
	for s, want := range map[string]S{
		"delay N limit N;":           {Kind: api.StepDelay, Time: api.MaxTime, Limit: api.MaxTime},
		"throttle N per N limit N;":  {Kind: api.StepThrottle, Number: api.MaxTime, Time: api.MaxTime, Limit: api.MaxTime},
		"saga { } limit N to x { };": {Kind: api.StepSaga, Limit: api.MaxTime, Schema: "x"},
	} {
		if l := stepsIn(t, strings.ReplaceAll(s, "N", most)); !reflect.DeepEqual(l, []S{want}) {
			t.Errorf("%s: %+v", s, l)
		}
	}
	for _, s := range []string{`""`, `";;"`, `"é"`, `"\u{80}"`, `"ab"`} {
		expectError(t, "program 1; queue a: b 1 as delimited ^"+s+";", api.ErrRange)
		expectError(t, "program 1; queue a: b 1 as\ndelimited\n ^"+s, api.ErrRange)
	}
}

// expectStreamError checks that something cannot be read from a text, because of an error at the mark in it.
func expectStreamError(t testing.TB, s string, want api.Errno, read func(u *lexer.Stream) bool) {
	t.Helper()
	text, line, column := cutMark(t, s)
	u := lexer.New(text)
	isZero := read(u)
	if gotLine, gotColumn, e := u.Error(); !isZero || gotLine != line || gotColumn != column || e != want {
		t.Errorf("reading of %.300q: %d at %d, %d, want %d at %d, %d", text, e, gotLine, gotColumn, want, line, column)
	}
}

// expectTypeError checks an error of a type that is read alone, and in a program.
func expectTypeError(t testing.TB, s string, want api.Errno) {
	t.Helper()
	expectStreamError(t, s, want, func(u *lexer.Stream) bool { return schema.Equal(parser.ReadType(u), T{}) })
	expectError(t, "program 1;\nschema a 1 "+s, want)
}

func expectValueError(t testing.TB, s string, want api.Errno) {
	t.Helper()
	expectStreamError(t, s, want, func(u *lexer.Stream) bool { return value.IsNull(parser.ReadValue(u)) })
	expectError(t, "program 1;\nschema a 1 record(1 b: bool = "+s, want) // whether the default is a Bool comes later
}

func TestP21_2TypeErrors(t *testing.T) {
	for s, e := range map[string]api.Errno{
		"^": api.ErrSyntax, "^1": api.ErrSyntax, "^(": api.ErrSyntax, "^\"bool\"": api.ErrSyntax, "^Bool": api.ErrSyntax, "^integer": api.ErrSyntax, "^null": api.ErrSyntax, "^-": api.ErrSyntax, "\n ^x": api.ErrSyntax,
		"int^": api.ErrSyntax, "int ^1..2": api.ErrSyntax, "int(^": api.ErrSyntax, "int(^)": api.ErrSyntax, "int(^..1)": api.ErrSyntax, "int(1^)": api.ErrSyntax, "int(1 ^2)": api.ErrSyntax, "int(1..^)": api.ErrSyntax, "int(1..2^": api.ErrSyntax, "int(1..2^,": api.ErrSyntax, "int(-^-1..2)": api.ErrSyntax, "int(^\"1\"..2)": api.ErrSyntax, "int(-^a..2)": api.ErrSyntax, "int(1..-^)": api.ErrSyntax, "int(1 ^. . 2)": api.ErrSyntax, "int(1 ^, 2)": api.ErrSyntax,
		"int(^1.0..2)": api.ErrRange, "int(-^1.5..2)": api.ErrRange, "int(1..^2.0)": api.ErrRange, "int(1..-^2.0)": api.ErrRange, "int(^1d..2)": api.ErrRange, "int(- ^1d..2)": api.ErrRange,
		"decimal^": api.ErrSyntax, "decimal(^1.00..2.00)": api.ErrRange, "decimal(2^)": api.ErrSyntax, "decimal(2 ^0.00..1.00)": api.ErrSyntax, "decimal(^-1, 0.0..1.0)": api.ErrSyntax, "decimal(2, ^..1.00)": api.ErrSyntax, "decimal(2, 0.00 ^, 1.00)": api.ErrSyntax, "decimal(2, 0.00..1.00^": api.ErrSyntax, "decimal(2, ^0..1.00)": api.ErrRange, "decimal(2, ^0.000..1.00)": api.ErrRange, "decimal(2, 0.00..-^1.0)": api.ErrRange, "decimal(0, ^1d..2)": api.ErrRange, "decimal(0, 1..^2d)": api.ErrRange, "decimal(0, 1..^2.0)": api.ErrRange, "decimal(13, ^0.000000000000..1.0)": api.ErrRange, "decimal(^a, 0..1)": api.ErrSyntax,
		"text^": api.ErrSyntax, "text(^)": api.ErrSyntax, "text(^a)": api.ErrSyntax, "text(^-1..2)": api.ErrSyntax, "text(1^)": api.ErrSyntax, "text(\"a\"^": api.ErrSyntax, "text(\"a\" ^\"b\")": api.ErrSyntax, "text(\"a\"^, \"b\")": api.ErrSyntax, "text(\"a\" | ^)": api.ErrSyntax, "text(\"a\" | ^1)": api.ErrSyntax, "text(\"a\"^..\"b\")": api.ErrSyntax, "text(^|)": api.ErrSyntax, "text(1..2 ^| 3)": api.ErrSyntax, "text(^x\"00\")": api.ErrSyntax,
		"bytes(^\"a\")": api.ErrSyntax, "bytes(1..^-2)": api.ErrSyntax, "bytes^": api.ErrSyntax, "bytes(1..2^": api.ErrSyntax,
		"date(^1..2)": api.ErrSyntax, "date(\"1970-01-01\"^)": api.ErrSyntax, "date(\"1970-01-01\"..^)": api.ErrSyntax, "date(\"1970-01-01\" ^| \"1970-01-02\")": api.ErrSyntax, "date(\"1970-02-30\"^..\"1970-02-30\")": api.ErrDate, "date(\"1970-1-1\"^..1)": api.ErrSyntax, "date(\"1970-01-01\"..\"1970-01-32\"^)": api.ErrDate, "date(\"1970-01-01\"..\"\"^": api.ErrSyntax, "date(\"1970-00-01\"^)": api.ErrDate, "date ^\"1970-01-01\"": api.ErrSyntax, "date(\"1970-01-01T00:00:00Z\"^..\"1970-01-01\")": api.ErrSyntax,
		"time(\"1970-01-01\"^..\"1970-01-02\")": api.ErrSyntax, "time(\"1970-01-01T24:00:00Z\"^..": api.ErrDate, "time(\"1970-01-01T00:00:00Z\"..\"1970-01-01T00:60:00Z\"^)": api.ErrDate, "time(^date)": api.ErrSyntax,
		"list^": api.ErrSyntax, "list(0..1^)": api.ErrSyntax, "list(0..1 ^bool)": api.ErrSyntax, "list(0..1, ^)": api.ErrSyntax, "list(0..1, ^1)": api.ErrSyntax, "list(0..1, bool^": api.ErrSyntax, "list(0..1, bool^, bool)": api.ErrSyntax, "list(^bool)": api.ErrSyntax, "list(^-1..1, bool)": api.ErrSyntax,
		"record^": api.ErrSyntax, "record ^{}": api.ErrSyntax, "record(^": api.ErrSyntax, "record(^a: bool)": api.ErrSyntax, "record(1 ^: bool)": api.ErrSyntax, "record(1 ^\"a\": bool)": api.ErrSyntax, "record(1 a ^bool)": api.ErrSyntax, "record(1 a? ^bool)": api.ErrSyntax, "record(1 a?^?: bool)": api.ErrSyntax, "record(1 a: ^)": api.ErrSyntax, "record(1 a: bool^": api.ErrSyntax, "record(1 a: bool,^": api.ErrSyntax, "record(1 a: bool, ^)": api.ErrSyntax, "record(1 a: bool ^2 b: bool)": api.ErrSyntax, "record(^, 1 a: bool)": api.ErrSyntax, "record(1 a: bool = ^)": api.ErrSyntax, "record(1 a: bool =^": api.ErrSyntax, "record(1 a: bool ^true)": api.ErrSyntax, "record(1 a?: bool ^= true)": api.ErrSyntax, "record(1 a?: bool ^=": api.ErrSyntax, "record(1 a: bool = true ^= true)": api.ErrSyntax, "record(^-1 a: bool)": api.ErrSyntax, "record(1 a: bool ^?)": api.ErrSyntax, "variant(^a: bool)": api.ErrSyntax, "variant^": api.ErrSyntax, "variant(1 a: bool^;": api.ErrSyntax,
		// The rules of layer 6, behind the whole type.
		"int(2..1)^": api.ErrRange, "int(2..1) ^x": api.ErrRange, "text(0..1025) ^;": api.ErrRange, "list(1..0, bool)\n^;": api.ErrRange, "list(0..1, int(2..1))^": api.ErrRange, "variant()^": api.ErrShort, "text(\"b\" | \"a\")^": api.ErrOrder, "text(\"a\" | \"a\")^": api.ErrDuplicate, "record(0 a: bool)^": api.ErrRange, "record(10000 a: bool)^": api.ErrRange, "record(1 A: bool)^": api.ErrName, "record(1 a: bool, 1 b: bool)^": api.ErrDuplicate, "record(1 a: bool, 2 a: bool)^": api.ErrDuplicate, "record(1 a: int(0..1) = 2)^": api.ErrType, "record(1 a: int(0..1) = 1.0)^": api.ErrType, "record(1 a: bool = {B: 1})^": api.ErrType, "record(1 a: int(2..1), 2 b: bool ^c": api.ErrSyntax, "variant(1 a?: bool)^": api.ErrKind, "variant(1 a: bool = true)^": api.ErrKind, "decimal(12, 0.000000000001..0.000000000000)^;": api.ErrRange,
	} {
		expectTypeError(t, s, e)
	}
	var fields, words []string
	for n := range api.MaxFields + 1 {
		fields = append(fields, strconv.Itoa(n+1)+" f"+strconv.Itoa(n)+": bool")
		words = append(words, strconv.Quote(strconv.Itoa(n+100)))
	}
	for _, s := range []string{"record(" + strings.Join(fields, ", ") + ")", "variant(" + strings.Join(fields, ", ") + ")", "text(" + strings.Join(words, "|") + ")"} {
		expectTypeError(t, s+"^", api.ErrLimit)
	}
	for _, s := range []string{"record(" + strings.Join(fields[1:], ", ") + ")", "variant(" + strings.Join(fields[1:], ", ") + ")", "text(" + strings.Join(words[1:], "|") + ")"} {
		if x := parsed(t, "program 1; schema a 1 "+s+";").Schemas[0].Type; schema.Check(x) != api.OK || len(x.Fields)+len(x.Words) != 64 {
			t.Errorf("%s: %v", s, x)
		}
	}
}

func TestP21_2ValueErrors(t *testing.T) {
	for s, e := range map[string]api.Errno{
		"^": api.ErrSyntax, "^;": api.ErrSyntax, "^(1)": api.ErrSyntax, "^]": api.ErrSyntax, "^}": api.ErrSyntax, "^,": api.ErrSyntax, "^+1": api.ErrSyntax,
		"^- 1": api.ErrSyntax, "^-": api.ErrSyntax, "^--1": api.ErrSyntax, "^-a": api.ErrSyntax, "^-\"a\"": api.ErrSyntax, "[1, ^- 1]": api.ErrSyntax,
		"a^": api.ErrSyntax, "a ^;": api.ErrSyntax, "null^": api.ErrSyntax, "null ^1": api.ErrSyntax, "a ^\"b\"": api.ErrSyntax, "x ^\"00\"": api.ErrSyntax, "True^": api.ErrSyntax, "a(^)": api.ErrSyntax, "a(1^": api.ErrSyntax, "a(1^, 2)": api.ErrSyntax, "a(b^)": api.ErrSyntax, "true(^)": api.ErrSyntax, "date(^)": api.ErrSyntax, "[a^]": api.ErrSyntax, "{a: b^}": api.ErrSyntax, "a ^: 1": api.ErrSyntax, "a(^- 1)": api.ErrSyntax,
		"date ^1": api.ErrSyntax, "date^": api.ErrSyntax, "date ^time \"x\"": api.ErrSyntax, "time ^]": api.ErrSyntax, "date \"1970-01-32\"^": api.ErrDate, "date \"x\"^": api.ErrSyntax, "[date \"1970-13-01\"^, 1]": api.ErrDate, "time \"1970-01-01\"^": api.ErrSyntax, "{a: time \"1970-01-01T00:00:60Z\"^}": api.ErrDate,
		"[^": api.ErrSyntax, "[^;": api.ErrSyntax, "[1^": api.ErrSyntax, "[1 ^2]": api.ErrSyntax, "[1,^": api.ErrSyntax, "[1, ^]": api.ErrSyntax, "[^, 1]": api.ErrSyntax, "[1^}": api.ErrSyntax, "[1^: 2]": api.ErrSyntax,
		"{^": api.ErrSyntax, "{^1: 2}": api.ErrSyntax, "{^\"a\": 2}": api.ErrSyntax, "{a^": api.ErrSyntax, "{a^}": api.ErrSyntax, "{a ^1}": api.ErrSyntax, "{a: ^}": api.ErrSyntax, "{a: 1^": api.ErrSyntax, "{a: 1 ^b: 2}": api.ErrSyntax, "{a: 1, ^}": api.ErrSyntax, "{a: 1, ^1: 2}": api.ErrSyntax, "{^, a: 1}": api.ErrSyntax, "{a: 1^]": api.ErrSyntax, "{a^(1)}": api.ErrSyntax,
		"{a: 1, a^: 2}": api.ErrDuplicate, "{a: 1, b: 2, a ^: 3}": api.ErrDuplicate, "{a: 1, a^}": api.ErrDuplicate, "{a: 1, a\n  ^1": api.ErrDuplicate, "{a: {a: 1, b: 2, b^: 3}}": api.ErrDuplicate, "[{a: 1}, {a: 1, a^: 1}]": api.ErrDuplicate, "{A: 1, A^: 1}": api.ErrDuplicate, "{a: 1, a^": api.ErrDuplicate,
	} {
		expectValueError(t, s, e)
	}
	if v := parser.ReadValue(lexer.New("{a: {a: 1}, b: [{a: 1}, {a: 1}]}")); len(v.Fields) != 2 {
		t.Errorf("equal names in different records: %v", v)
	}
}

func TestP21_2TargetErrors(t *testing.T) {
	long := strings.Repeat("abcdefghi.", 20)
	for s, e := range map[string]api.Errno{
		"^": api.ErrSyntax, "^1": api.ErrSyntax, "^\"a\"": api.ErrSyntax, "^.a": api.ErrSyntax, "^[1]": api.ErrSyntax, "^*": api.ErrSyntax, "a.^": api.ErrSyntax, "a. ^b": api.ErrSyntax, "a.^1": api.ErrSyntax, "a.^*": api.ErrSyntax, "a.b.^[": api.ErrSyntax, "a?^": api.ErrSyntax, "a? ^b": api.ErrSyntax, "a?^1": api.ErrSyntax, "a[^": api.ErrSyntax, "a[^]": api.ErrSyntax, "a[^b]": api.ErrSyntax, "a[ ^1]": api.ErrSyntax, "a[1^": api.ErrSyntax, "a[1 ^]": api.ErrSyntax, "a[1^.b": api.ErrSyntax, "a[^-1]": api.ErrSyntax, "a[ ^*]": api.ErrSyntax, "a[* ^]": api.ErrSyntax, "a[*^*]": api.ErrSyntax, "a[^\"1\"]": api.ErrSyntax, "a[1^)": api.ErrSyntax,
		// The rules of layer 5, behind the whole target.
		"A^": api.ErrSyntax, "A ^= 1": api.ErrSyntax, "a.B^": api.ErrSyntax, "a[256]^": api.ErrSyntax, "a[1.5]^": api.ErrSyntax, "a[1d]\n^=": api.ErrSyntax, "A.b[300].c ^x": api.ErrSyntax, strings.Repeat("w", 33) + "^": api.ErrSyntax, long + "a^": api.ErrLong, "a" + strings.Repeat(".b", 15) + ".c^": api.ErrLimit, "a" + strings.Repeat("[1]", 16) + " ^x": api.ErrLimit, "a.B. ^c": api.ErrSyntax,
	} {
		expectStreamError(t, s, e, func(u *lexer.Stream) bool { return parser.ReadTarget(u) == "" })
		expectError(t, inRoute("map to x { a = 1; "+s), e)
	}
	if s := parser.ReadTarget(lexer.New("a" + strings.Repeat(".b", 15))); len(s) != 31 {
		t.Errorf("a target of 16 parts: %q", s)
	}
}

func TestP21_1FormulaErrors(t *testing.T) {
	deep := strings.Repeat("(", formula.MaxNest)
	for s, e := range map[string]api.Errno{
		"filter a[256] ^reason \"x\";": api.ErrSyntax, "filter a.B ^reason \"x\";": api.ErrSyntax, "filter " + deep + "^(1": api.ErrDepth, "filter date \"x\" ^reason \"x\";": api.ErrSyntax, "filter date \"1970-01-32\" ^= a reason \"x\";": api.ErrDate, "filter divide(a, b, ^13) reason \"x\";": api.ErrRange, "filter has(a[*]) ^reason \"x\";": api.ErrPath, "filter a[*] = 1 ^reason \"x\";": api.ErrPath, "filter 1 + (1 + (1 + (1 + (1 + (1 + (1 + (1 + 1))))))) ^reason \"x\";": api.ErrDepth, "filter 1 in (1" + strings.Repeat(", 1", 254) + ") ^reason \"x\";": api.ErrLimit,
		"split a[256] ^to x { };": api.ErrSyntax, "split a" + strings.Repeat(".b", 16) + " ^to x { };": api.ErrLimit, "split A ^to x { };": api.ErrSyntax,
		"map to x { a = sum(b)^; };": api.ErrPath, "map to x { a = B^; };": api.ErrSyntax, "order by has(a[*]) ^number 1 limit 1;": api.ErrPath, "order by 1 number has(a[*]) ^limit 1;": api.ErrPath, "unique by has(a[*]) ^keep 1;": api.ErrPath, "aggregate by has(a[*]) ^limit 1": api.ErrPath, "aggregate by 1 when has(a[*]) ^limit 1": api.ErrPath, "choose { when has(a[*]) ^{ } }": api.ErrPath, "call a { b = has(a[*])^; }": api.ErrPath, "saga { call a { b = has(a[*])^; } }": api.ErrPath,
	} {
		expectError(t, inRoute(s), e)
	}
}

func TestP21_1Limits(t *testing.T) {
	repeat := func(s string, n int) string {
		var b strings.Builder
		for i := range n {
			b.WriteString(strings.ReplaceAll(s, "#", "n"+strconv.Itoa(i)))
		}
		return b.String()
	}
	const most = api.MaxFields
	flags, sources, services, routes := repeat("schema # 1 bool;\n", most), repeat("source #: a 1 as tagged;", most), repeat("service #: a -> b;", most), repeat("route # from a { }\n", most)
	if p := parsed(t, "program 1; "+flags+sources+services+routes); len(p.Schemas) != most || len(p.Endpoints) != most || len(p.Services) != most || len(p.Routes) != most {
		t.Errorf("%d, %d, %d, %d declarations", len(p.Schemas), len(p.Endpoints), len(p.Services), len(p.Routes))
	}
	for _, s := range []string{flags + "^schema", flags + routes + "^schema x 1 bool;", sources + "^source", sources + "^sink", sources + "^queue 1", services + flags + "^service ;", routes + "^route", routes + "^route x from y { ; }"} {
		expectError(t, "program 1; "+s, api.ErrLimit)
	}
	expectError(t, "program 1; "+flags+"^schemas", api.ErrSyntax)
	mixed := repeat("source #: a 1 as tagged; sink #: a 1 as literal;", 21) + repeat("queue #: a 1 as tagged;", 22)
	for _, word := range []string{"source", "sink", "queue"} {
		expectError(t, "program 1; "+mixed+"^"+word, api.ErrLimit)
	}
	for first, c := range map[string]struct{ before, one, behind string }{
		"to x;":                      {"", "to x;", ""},
		"foo":                        {"", "to x;", ""},
		"to: to x;":                  {"", "a: to x;", ""},
		"choose 1":                   {"choose { when a { ", "reject \"x\";", ""},
		"when a { }":                 {"choose { ", "when a { } ", " }"},
		"otherwise { }":              {"choose { ", "when a { } ", " }"},
		"branch":                     {"multicast { ", "branch { } ", " }"},
		"call":                       {"saga { ", "call # { a = 1; } ", " } limit 1 to x { };"},
		"call x { }":                 {"saga { ", "call # { } ", " } limit 1 to x { };"},
		"filter":                     {"multicast { branch { ", "to x;", ""},
		"saga { } limit 1 to x { };": {"", "delay 1 limit 1;", ""},
	} {
		expectError(t, inRoute(c.before+repeat(c.one, most)+"^"+first), api.ErrLimit)
		if c.behind != "" || c.before == "" {
			parsed(t, inRoute(c.before+repeat(c.one, most)+c.behind))
		}
	}
	expectError(t, inRoute("choose { "+repeat("when a { } ", most)+"^branch"), api.ErrSyntax)
	expectError(t, inRoute("choose { "+repeat("when a { } ", most-1)+"otherwise { } ^when"), api.ErrSyntax)
	parsed(t, inRoute("choose { "+repeat("when a { } ", most-1)+"otherwise { } }"))
	expectError(t, inRoute("saga { "+repeat("call a { } ", most)+"^calls"), api.ErrSyntax)
	expectError(t, inRoute(repeat("to x;", most)+"^1"), api.ErrSyntax)
	// Each list counts for itself.
	parsed(t, inRoute(repeat("choose { when a { to x; } } ", most-1)+"multicast { "+repeat("branch { "+repeat("to x;", most)+"}", 4)+"}"))
	if n := len(stepsIn(t, "map to x { "+repeat("# = 1; ", 256)+"};")[0].Mapping.Rules); n != 256 {
		t.Errorf("%d rules", n)
	}
	for _, s := range []string{"map to x { ", "call a { ", "saga { call b { } call a { ", "split a to b { "} {
		for _, first := range []string{"a", "B = 2;", "to ="} {
			expectError(t, inRoute(s+repeat("# = 1; ", 256)+"^"+first), api.ErrLimit)
		}
		expectError(t, inRoute(s+repeat("# = 1; ", 256)+"^1"), api.ErrSyntax)
	}
	parsed(t, inRoute("saga { call a { "+repeat("# = 1; ", 256)+"} call b { "+repeat("# = 1; ", 256)+"} } limit 1 to x { "+repeat("# = 1; ", 256)+"};"))
}

func TestP21_1Nesting(t *testing.T) {
	nested := func(open, inside, end string, n int) string {
		return strings.Repeat(open, n) + inside + strings.Repeat(end, n)
	}
	parsed(t, inRoute(nested("choose { when a { ", "to x;", " } }", 8)))
	parsed(t, inRoute(nested("choose { otherwise { ", "multicast { } choose { }", " } }", 8)))
	parsed(t, inRoute(nested("multicast { branch { ", "multicast { }", " } }", 8)+nested("multicast { branch { ", "", " } }", 8)))
	parsed(t, inRoute(nested("multicast { branch { } branch { ", "", " } branch { } }", 8)))
	for _, first := range []string{"choose { when a ^{ ", "choose { otherwise ^{", "multicast { branch ^{ } }", "multicast { branch ^{ { ;"} {
		expectError(t, inRoute(nested("choose { when a { ", first, " } }", 8)), api.ErrDepth)
		expectError(t, inRoute(nested("multicast { branch { choose { otherwise { ", "multicast { } "+first, "", 4)), api.ErrDepth)
	}
	expectError(t, inRoute(nested("multicast { branch { ", "multicast { branch ^; }", "", 8)), api.ErrSyntax)
	expectError(t, inRoute(nested("multicast { branch { ", "choose { when ^{ }", "", 8)), api.ErrSyntax)

	for n, list := 7, "list(0..1, "; n <= 8; n++ {
		inside := []string{"bool", "int(0..1)", "record()", "variant(1 a: bool", "list(0..1, bool)", "text", "record"}
		for _, s := range inside {
			if n == 8 {
				expectTypeError(t, strings.Repeat(list, n)+"^"+s, api.ErrDepth)
			}
		}
		for _, s := range []string{"", "1", "x", "(", "\"a\"", "-"} {
			expectTypeError(t, strings.Repeat(list, n)+"^"+s, api.ErrSyntax)
		}
	}
	if x := parser.ReadType(lexer.New(nested("list(0..1, ", "bool", ")", 7))); schema.Depth(x) != 8 {
		t.Errorf("%v", x)
	}
	expectTypeError(t, nested("record(1 a?: ", "^record()", ")", 8), api.ErrDepth)
	expectTypeError(t, "record(1 b: bool, 2 c: "+nested("variant(1 a: ", "^int(", ")", 7), api.ErrDepth)

	for _, c := range []struct{ open, end string }{{"[", "]"}, {"{a: ", "}"}, {"card(", ")"}, {"date(", ")"}} {
		if v := parser.ReadValue(lexer.New(nested(c.open, "1", c.end, 7))); value.Depth(v) != 8 {
			t.Errorf("%s: %v", c.open, v)
		}
		for _, s := range []string{"1", "-1", "-", "- 1", "\"a\"", "x\"\"", "true", "a", "date", "[", "{", "null", "card(1)"} {
			expectValueError(t, strings.Repeat(c.open, 8)+"^"+s, api.ErrDepth)
		}
		for _, s := range []string{"", ")1", ":", "+"} {
			if strings.HasPrefix(s, c.end) {
				continue
			}
			expectValueError(t, strings.Repeat(c.open, 8)+"^"+s, api.ErrSyntax)
		}
	}
	if v := parser.ReadValue(lexer.New(nested("[", "", "]", 8))); value.Depth(v) != 8 {
		t.Errorf("%v", v)
	}
	if v := parser.ReadValue(lexer.New("[" + nested("[", "1", "]", 6) + ", " + nested("{a: ", "1", "}", 6) + "]")); value.Depth(v) != 8 {
		t.Errorf("%v", v)
	}
	// A default is contained in no other value, whatever types contain it.
	text := nested("record(1 a?: ", "record(1 b: list(0..1, "+nested("list(0..1, ", "bool", ")", 3)+") = [[[[]]]])", ")", 2)
	if x := parsed(t, "program 1; schema a 1 "+text+";"); schema.Depth(x.Schemas[0].Type) != 8 {
		t.Errorf("%v", x)
	}
	expectTypeError(t, "record(1 b: bool = "+nested("[", "^1", "]", 8), api.ErrDepth)
}
