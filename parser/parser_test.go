package parser_test

import (
	"reflect"
	"strings"
	"testing"

	"manifold/api"
	"manifold/formula"
	"manifold/lexer"
	"manifold/literal"
	"manifold/parser"
	"manifold/schema"
	"manifold/value"
)

type (
	V = api.Value
	E = api.Expr
	T = api.Type
	S = api.Step
)

// parsed returns the program with a text that has no error.
func parsed(t testing.TB, s string) api.Program {
	t.Helper()
	p, line, column, e := parser.Parse(s)
	if line != 0 || column != 0 || e != api.OK {
		t.Fatalf("Parse(%.200q): %d at %d, %d", s, e, line, column)
	}
	return p
}

func condition(t testing.TB, s string) E {
	t.Helper()
	x, line, column, e := formula.Parse(s)
	if e != api.OK {
		t.Fatalf("Parse(%q): %d at %d, %d", s, e, line, column)
	}
	return x
}

func conditions(t testing.TB, l ...string) []E {
	t.Helper()
	var out []E
	for _, s := range l {
		out = append(out, condition(t, s))
	}
	return out
}

func typed(t testing.TB, s string) T {
	t.Helper()
	x, at, e := literal.ParseType(s)
	if e != api.OK {
		t.Fatalf("ParseType(%q): %d at %d", s, e, at)
	}
	return x
}

// rules returns the mapping with some targets and expressions, by turns.
func rules(t testing.TB, l ...string) api.Mapping {
	t.Helper()
	var m api.Mapping
	for i := 0; i < len(l); i += 2 {
		m.Rules = append(m.Rules, api.Rule{Target: l[i], Expr: condition(t, l[i+1])})
	}
	return m
}

const exampleText = `program 1;
schema order 1 record(1 id: int(0..99), 2 total: decimal(2, 0.00..99.99));
source shop: order 1 as tagged;
sink bank: order 1 as delimited ";";
route main from shop {
  filter body.total > 0 reason "free";
  big: choose {
    when body.total >= 10.00 { to bank; }
    otherwise { reject "small"; }
  }
}
`

func TestP21_1Example(t *testing.T) {
	want := api.Program{
		Version: 1,
		Schemas: []api.Schema{{Name: "order", Version: 1, Type: typed(t, "record(1 id: int(0..99), 2 total: decimal(2, 0.00..99.99))")}},
		Endpoints: []api.Endpoint{
			{Name: "shop", Kind: api.Source, Schema: "order", Version: 1, Format: api.Format{Kind: api.Tagged}},
			{Name: "bank", Kind: api.Sink, Schema: "order", Version: 1, Format: api.Format{Kind: api.Delimited, Separator: ';'}},
		},
		Routes: []api.Route{{Name: "main", From: "shop", Steps: []S{
			{Kind: api.StepFilter, Exprs: conditions(t, "body.total > 0"), Text: "free"},
			{Name: "big", Kind: api.StepChoose, Branches: []api.Branch{
				{When: conditions(t, "body.total >= 10.00"), Steps: []S{{Kind: api.StepTo, Text: "bank"}}},
				{Steps: []S{{Kind: api.StepReject, Text: "small"}}},
			}},
		}}},
	}
	if p := parsed(t, exampleText); !reflect.DeepEqual(p, want) {
		t.Errorf("Parse = %+v, want %+v", p, want)
	}
}

func TestP21_1Declarations(t *testing.T) {
	flag := T{Kind: api.Bool}
	endpoint := func(kind int, f api.Format) api.Program {
		return api.Program{Endpoints: []api.Endpoint{{Name: "E_1", Kind: kind, Schema: "order", Version: 12, Format: f}}}
	}
	for s, want := range map[string]api.Program{
		"":                                                           {},
		"schema Order 7 bool;":                                       {Schemas: []api.Schema{{Name: "Order", Version: 7, Type: flag}}},
		"schema schema 0 bool;":                                      {Schemas: []api.Schema{{Name: "schema", Type: flag}}},
		"schema a 1 bool; schema a 1 bool;":                          {Schemas: []api.Schema{{Name: "a", Version: 1, Type: flag}, {Name: "a", Version: 1, Type: flag}}},
		"schema a 17592186044416 bool;":                              {Schemas: []api.Schema{{Name: "a", Version: 1 << 44, Type: flag}}},
		"source E_1: order 12 as tagged;":                            endpoint(api.Source, api.Format{Kind: api.Tagged}),
		"sink E_1: order 12 as literal;":                             endpoint(api.Sink, api.Format{Kind: api.Literal}),
		"queue E_1: order 12 as delimited \";\";":                    endpoint(api.Queue, api.Format{Kind: api.Delimited, Separator: ';'}),
		"queue E_1: order 12 as delimited \"\\n\";":                  endpoint(api.Queue, api.Format{Kind: api.Delimited, Separator: '\n'}),
		`queue E_1: order 12 as delimited "\u{0}";`:                  endpoint(api.Queue, api.Format{Kind: api.Delimited}),
		`queue E_1: order 12 as delimited "\u{7f}";`:                 endpoint(api.Queue, api.Format{Kind: api.Delimited, Separator: 127}),
		"source E_1: order 12 as fixed (3);":                         endpoint(api.Source, api.Format{Kind: api.Fixed, Widths: []int{3}}),
		"source E_1: order 12 as fixed(0, 17, 2);":                   endpoint(api.Source, api.Format{Kind: api.Fixed, Widths: []int{0, 17, 2}}),
		"service stock: ask -> answer;":                              {Services: []api.Service{{Name: "stock", Request: "ask", Reply: "answer"}}},
		"service stock: ask->answer undo;":                           {Services: []api.Service{{Name: "stock", Request: "ask", Reply: "answer", Undo: true}}},
		"service undo: undo -> undo;":                                {Services: []api.Service{{Name: "undo", Request: "undo", Reply: "undo"}}},
		"route r from q { }":                                         {Routes: []api.Route{{Name: "r", From: "q"}}},
		"route from from from { } route route from route { to to; }": {Routes: []api.Route{{Name: "from", From: "from"}, {Name: "route", From: "route", Steps: []S{{Kind: api.StepTo, Text: "to"}}}}},
		"sink b: s 1 as tagged; queue a: s 1 as tagged; schema c 1 bool; source b: s 2 as literal; schema b 1 bool;": {
			Schemas:   []api.Schema{{Name: "c", Version: 1, Type: flag}, {Name: "b", Version: 1, Type: flag}},
			Endpoints: []api.Endpoint{{Name: "b", Kind: api.Sink, Schema: "s", Version: 1, Format: api.Format{Kind: api.Tagged}}, {Name: "a", Kind: api.Queue, Schema: "s", Version: 1, Format: api.Format{Kind: api.Tagged}}, {Name: "b", Kind: api.Source, Schema: "s", Version: 2, Format: api.Format{Kind: api.Literal}}},
		},
	} {
		want.Version = 999
		if p := parsed(t, "program 999; "+s); !reflect.DeepEqual(p, want) {
			t.Errorf("Parse(%s) = %+v, want %+v", s, p, want)
		}
	}
	for s, version := range map[string]int{"program 0;": 0, "program 17592186044416;": 1 << 44} {
		if p := parsed(t, s); p.Version != version {
			t.Errorf("Parse(%s) = %+v", s, p)
		}
	}
}

// stepsIn returns the steps with a text.
func stepsIn(t testing.TB, s string) []S {
	t.Helper()
	return parsed(t, "program 1; route r from q { "+s+" }").Routes[0].Steps
}

func TestP21_1Steps(t *testing.T) {
	end := api.Step{Kind: api.StepTo, Text: "x"}
	for s, want := range map[string]S{
		`filter body.n < 5 reason "large";`:                          {Kind: api.StepFilter, Exprs: conditions(t, "body.n < 5"), Text: "large"},
		`filter true reason "";`:                                     {Kind: api.StepFilter, Exprs: conditions(t, "true")},
		"map to order { };":                                          {Kind: api.StepMap, Schema: "order"},
		"map to To { n = body.n * 2; a.b = body.x else \"\"; };":     {Kind: api.StepMap, Schema: "To", Mapping: rules(t, "n", "body.n * 2", "a.b", "body.x else \"\"")},
		"split body.lines to line { index = index; of = count; };":   {Kind: api.StepSplit, Text: "body.lines", Schema: "line", Mapping: rules(t, "index", "index", "of", "count")},
		"split body.a[2]?c.d[*] to line { };":                        {Kind: api.StepSplit, Text: "body.a[2]?c.d[*]", Schema: "line"},
		"aggregate by body.key limit 8 to batch { };":                {Kind: api.StepAggregate, Exprs: conditions(t, "body.key"), Limit: 8, Schema: "batch"},
		"aggregate by body.key when count > 2 limit 8 to batch { };": {Kind: api.StepAggregate, Exprs: conditions(t, "body.key", "count > 2"), Limit: 8, Schema: "batch"},
		"aggregate by body.key count 3 within 60000 limit 8 to batch { key = key; total = sum(items[*].total, 2); } ;": {Kind: api.StepAggregate, Exprs: conditions(t, "body.key"), Number: 3, Time: 60000, Limit: 8, Schema: "batch", Mapping: rules(t, "key", "key", "total", "sum(items[*].total, 2)")},
		"aggregate by 1 when true count 1 within 2 limit 3 to b { };":                                                  {Kind: api.StepAggregate, Exprs: conditions(t, "1", "true"), Number: 1, Time: 2, Limit: 3, Schema: "b"},
		"aggregate by count within 2 limit 3 to b { };":                                                                {Kind: api.StepAggregate, Exprs: conditions(t, "count"), Time: 2, Limit: 3, Schema: "b"},
		"order by body.g number body.n limit 4;":                                                                       {Kind: api.StepOrder, Exprs: conditions(t, "body.g", "body.n"), Limit: 4},
		"order by number(body.g) number number(body.n) within 500 limit 4;":                                            {Kind: api.StepOrder, Exprs: conditions(t, "number(body.g)", "number(body.n)"), Time: 500, Limit: 4},
		"order by a number (b) + 1 limit 0;":                                                                           {Kind: api.StepOrder, Exprs: conditions(t, "a", "b + 1")},
		"unique by body.key keep 5;":                                                                                   {Kind: api.StepUnique, Exprs: conditions(t, "body.key"), Number: 5},
		"throttle 2 per 1000 limit 16;":                                                                                {Kind: api.StepThrottle, Number: 2, Time: 1000, Limit: 16},
		"delay 10 limit 1;":                                                                                            {Kind: api.StepDelay, Time: 10, Limit: 1},
		"call stock { id = body.id; } limit 8 to order { id = reply.id; };":                                            {Kind: api.StepCall, Calls: []api.Call{{Service: "stock", Mapping: rules(t, "id", "body.id")}}, Limit: 8, Schema: "order", Mapping: rules(t, "id", "reply.id")},
		"call call { } within 7 limit 8 to call { };":                                                                  {Kind: api.StepCall, Calls: []api.Call{{Service: "call"}}, Time: 7, Limit: 8, Schema: "call"},
		"saga { } limit 1 to order { };":                                                                               {Kind: api.StepSaga, Limit: 1, Schema: "order"},
		"saga { call pay { n = 1; } call stock { } call pay { n = 2; m = 3; } } within 9 limit 1 to order { a = reply0.a; };": {Kind: api.StepSaga, Calls: []api.Call{{Service: "pay", Mapping: rules(t, "n", "1")}, {Service: "stock"}, {Service: "pay", Mapping: rules(t, "n", "2", "m", "3")}}, Time: 9, Limit: 1, Schema: "order", Mapping: rules(t, "a", "reply0.a")},
		"choose { }":               {Kind: api.StepChoose},
		"choose { otherwise { } }": {Kind: api.StepChoose, Branches: []api.Branch{{}}},
		"choose { when a { } when b = 1 { to x; to x; } otherwise { to x; } }": {Kind: api.StepChoose, Branches: []api.Branch{{When: conditions(t, "a")}, {When: conditions(t, "b = 1"), Steps: []S{end, end}}, {Steps: []S{end}}}},
		"choose { when when { } when otherwise { } }":                          {Kind: api.StepChoose, Branches: []api.Branch{{When: conditions(t, "when")}, {When: conditions(t, "otherwise")}}},
		"multicast { }": {Kind: api.StepMulticast},
		"multicast { branch { to x; } branch { } }":                                     {Kind: api.StepMulticast, Branches: []api.Branch{{Steps: []S{end}}, {}}},
		"multicast { branch { choose { when a { multicast { branch { to x; } } } } } }": {Kind: api.StepMulticast, Branches: []api.Branch{{Steps: []S{{Kind: api.StepChoose, Branches: []api.Branch{{When: conditions(t, "a"), Steps: []S{{Kind: api.StepMulticast, Branches: []api.Branch{{Steps: []S{end}}}}}}}}}}}},
		"to Bank_1;":         {Kind: api.StepTo, Text: "Bank_1"},
		`reject "no\u{e9}";`: {Kind: api.StepReject, Text: "noé"},
	} {
		if l := stepsIn(t, s); len(l) != 1 || !reflect.DeepEqual(l[0], want) {
			t.Errorf("%s: %+v, want %+v", s, l, want)
		}
		for _, name := range []string{"a", "Big_1", "to", "reject", "when", "true", "choose", strings.Repeat("w", 64)} {
			named := want
			named.Name = name
			if l := stepsIn(t, name+": "+s+" "+name+" : "+s); len(l) != 2 || !reflect.DeepEqual(l, []S{named, named}) {
				t.Errorf("%s: %s: %+v", name, s, l)
			}
		}
	}
}

func TestP21_2Types(t *testing.T) {
	for s, want := range map[string]T{
		"bool": {Kind: api.Bool}, "int(0..99)": {Kind: api.Int, Max: 99}, "int(-5..-1)": {Kind: api.Int, Min: -5, Max: -1}, "int ( - 5 .. - 1 )": {Kind: api.Int, Min: -5, Max: -1}, "int(-999999999999999..999999999999999)": {Kind: api.Int, Min: -999999999999999, Max: 999999999999999}, "int(-0..0)": {Kind: api.Int},
		"decimal(2, -1.50..2.00)": {Kind: api.Decimal, Scale: 2, Min: -150, Max: 200}, "decimal(0, -1..2)": {Kind: api.Decimal, Min: -1, Max: 2}, "decimal(12, 0.000000000000..0.000000000001)": {Kind: api.Decimal, Scale: 12, Max: 1},
		"text(0..1024)": {Kind: api.Text, Max: 1024}, `text("")`: {Kind: api.Text, Words: []string{""}}, `text("a" | "b"|"c")`: {Kind: api.Text, Words: []string{"a", "b", "c"}}, "bytes(1..2)": {Kind: api.Bytes, Min: 1, Max: 2},
		`date("1970-01-01".."1970-01-02")`: {Kind: api.Date, Max: 1}, `time("1969-12-31T23:59:59.999Z".."1970-01-01T00:00:00Z")`: {Kind: api.Time, Min: -1}, "list(0..3, bool)": {Kind: api.List, Max: 3, Elem: []T{{Kind: api.Bool}}},
		"record()": {Kind: api.Record}, "record(1 a: bool)": {Kind: api.Record, Fields: []api.TypeField{{Number: 1, Name: "a", Need: api.Required, Type: T{Kind: api.Bool}}}},
		"record(9999 record?: int(0..1), 1 int: bool = true)": {Kind: api.Record, Fields: []api.TypeField{{Number: 9999, Name: "record", Need: api.Optional, Type: T{Kind: api.Int, Max: 1}}, {Number: 1, Name: "int", Need: api.Defaulted, Type: T{Kind: api.Bool}, Default: []V{value.Bool(true)}}}},
		"record(1 l: list(0..1, record()) = [{}])":            {Kind: api.Record, Fields: []api.TypeField{{Number: 1, Name: "l", Need: api.Defaulted, Type: T{Kind: api.List, Max: 1, Elem: []T{{Kind: api.Record}}}, Default: []V{value.List(value.Record())}}}},
		"variant(1 a: bool, 2 b: record(1 c?: bool))":         {Kind: api.Variant, Fields: []api.TypeField{{Number: 1, Name: "a", Need: api.Required, Type: T{Kind: api.Bool}}, {Number: 2, Name: "b", Need: api.Required, Type: T{Kind: api.Record, Fields: []api.TypeField{{Number: 1, Name: "c", Need: api.Optional, Type: T{Kind: api.Bool}}}}}}},
	} {
		u := lexer.New(s + " behind")
		if x := parser.ReadType(u); !schema.Equal(x, want) || !u.Is("behind") {
			t.Errorf("ReadType(%s) = %+v, want %+v", s, x, want)
		}
		if p := parsed(t, "program 1; schema a 1 "+s+";"); !schema.Equal(p.Schemas[0].Type, want) {
			t.Errorf("Parse(%s) = %+v, want %+v", s, p, want)
		}
	}
}

func TestP21_2Values(t *testing.T) {
	card := func(v V) V { return value.Variant("card", v) }
	for s, want := range map[string]V{
		"true": value.Bool(true), "false": value.Bool(false), "0": value.Int(0), "12": value.Int(12), "-12": value.Int(-12), "-0": value.Int(0), "12d": value.Decimal(12, 0), "-12d": value.Decimal(-12, 0), "1.50": value.Decimal(150, 2), "-1.50": value.Decimal(-150, 2), `"a\n"`: value.Text("a\n"), `""`: value.Text(""), `x"0aFF"`: value.Bytes("\x0A\xFF"), `date "1970-01-02"`: value.Date(1), `time"1970-01-01T00:00:00.001Z"`: value.Time(1),
		"[]": value.List(), "[ 1 ]": value.List(value.Int(1)), "[1, -2.50, [], \"a\"]": value.List(value.Int(1), value.Decimal(-250, 2), value.List(), value.Text("a")), "{}": value.Record(), "{a: 1}": value.Record(api.Field{Name: "a", Value: value.Int(1)}),
		"{b: {}, a: [1], C: true, aa: date(1)}": {Kind: api.Record, Fields: []api.Field{{Name: "C", Value: value.Bool(true)}, {Name: "a", Value: value.List(value.Int(1))}, {Name: "aa", Value: value.Variant("date", value.Int(1))}, {Name: "b", Value: value.Record()}}},
		"card(1)":                               card(value.Int(1)), "card ( [ ] )": card(value.List()), "card(card(card({card: card(0)})))": card(card(card(value.Record(api.Field{Name: "card", Value: card(value.Int(0))})))), "true(false)": value.Variant("true", value.Bool(false)), "false (1)": value.Variant("false", value.Int(1)), `date(date "1970-01-01")`: value.Variant("date", value.Date(0)), `time ( "x" )`: value.Variant("time", value.Text("x")), "Card_9(1)": value.Variant("Card_9", value.Int(1)), "null(1)": value.Variant("null", value.Int(1)), "x(1)": value.Variant("x", value.Int(1)),
		"{true: true, date: 1, x: x(1)}": value.Record(api.Field{Name: "date", Value: value.Int(1)}, api.Field{Name: "true", Value: value.Bool(true)}, api.Field{Name: "x", Value: value.Variant("x", value.Int(1))}),
	} {
		u := lexer.New(s + " behind")
		if v := parser.ReadValue(u); !value.Equal(v, want) || !u.Is("behind") {
			t.Errorf("ReadValue(%s) = %+v, want %+v", s, v, want)
		}
	}
	// Lists and records are not limited here.
	long := lexer.New("[" + strings.Repeat("1, ", 1000) + "1]")
	if v := parser.ReadValue(long); len(v.List) != 1001 || long.Peek().Kind != lexer.End {
		t.Errorf("a list of %d elements", len(v.List))
	}
}

func TestP21_2Targets(t *testing.T) {
	for s, rest := range map[string]string{
		"a": "", "a.b": "", "a[2]": "", "a[*].b?c.d[0][255]": "", "true": "", "and.or": "", "sum[1]": "", "not?in": "", "a .b": ".b", "a [1]": "[1]", "a ?b": "?b", "a = 1": "= 1", "a.b.c;": ";", "a.true": "", "a..b": "..b", "a->": "->", "a(b": "(b", "a\"b\"": "\"b\"", "a[1][*]?b =": "=",
	} {
		want := strings.TrimSpace(strings.TrimSuffix(s, rest))
		u := lexer.New(s)
		if got := parser.ReadTarget(u); got != want {
			t.Errorf("ReadTarget(%s) = %q, want %q", s, got, want)
		}
		if next := u.Peek(); next.Kind == lexer.End && rest != "" || next.Kind != lexer.End && next.Column != len(s)-len(rest)+1 {
			t.Errorf("ReadTarget(%s) ends before %+v", s, next)
		}
	}
}

func TestP21_2Streams(t *testing.T) {
	for name, u := range map[string]*lexer.Stream{"nil": nil, "zero": {}, "empty": lexer.New(""), "broken": lexer.New("bool #")} {
		_, _, before := u.Error()
		if x, v, s := parser.ReadType(u), parser.ReadValue(u), parser.ReadTarget(u); !schema.Equal(x, T{}) || !value.IsNull(v) || s != "" {
			t.Errorf("%s: %+v, %+v, %q", name, x, v, s)
		}
		if _, _, e := u.Error(); before != api.OK && e != before || before == api.OK && e != api.ErrSyntax {
			t.Errorf("%s: %d", name, e)
		}
	}
	failed := lexer.New("true bool a")
	failed.Fail(api.ErrBusy)
	if v, x, s := parser.ReadValue(failed), parser.ReadType(failed), parser.ReadTarget(failed); !value.IsNull(v) || !schema.Equal(x, T{}) || s != "" {
		t.Errorf("%+v, %+v, %q", v, x, s)
	}
	if _, column, e := failed.Error(); column != 1 || e != api.ErrBusy {
		t.Errorf("%d at %d", e, column)
	}
	several := lexer.New("bool 1 a.b int(0..1) [true] c")
	x, v, s := parser.ReadType(several), parser.ReadValue(several), parser.ReadTarget(several)
	y, w, r := parser.ReadType(several), parser.ReadValue(several), parser.ReadTarget(several)
	if x.Kind != api.Bool || v.Int != 1 || s != "a.b" || y.Max != 1 || len(w.List) != 1 || r != "c" || several.Peek().Kind != lexer.End {
		t.Errorf("%v %v %v %v %v %v", x, v, s, y, w, r)
	}
}
