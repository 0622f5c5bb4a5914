package parser_test

import (
	"math/rand"
	"reflect"
	"strconv"
	"strings"
	"testing"

	"manifold/api"
	"manifold/lexer"
	"manifold/literal"
	"manifold/parser"
	"manifold/schema"
	"manifold/value"
)

// everything is a program with all forms of the grammar.
const everything = `program 12;
schema order 1 record(1 id: int(-5..99), 2 total: decimal(2, -1.50..99.99), 3 note?: text(0..20), 4 kind: text("a" | "b") = "a", 5 raw: bytes(0..4));
schema line 2 record(1 day: date("1970-01-01".."1970-01-01"), 3 list: list(0..3, variant(1 card: bool, 2 cash: int(0..1))) = [card(true), cash(1)], 4 r: record() = {});
source shop: order 1 as tagged;
sink bank: order 1 as delimited ";";
queue late: order 1 as fixed (3, 5);
queue soon: order 1 as literal;
service stock: order -> line undo;
service pay: line -> order;
route main from shop {
  filter body.total > 0 and not has(body.note) reason "free";
  big: choose {
    when body.total >= 10.00 or -5 < -body.id { to bank; }
    when body.l[2]?c in (1, 2) { }
    otherwise { last: reject "small"; }
  }
}
route other from late {
  unique by body.id keep 5;
  order by body.id number body.id * 2 within 500 limit 4;
  throttle 3 per 1000 limit 2;
  delay 10 limit 1;
  call stock { id = body.id; true.x = date "1970-01-01"; } within 7 limit 8 to order { id = reply.id; };
  saga { call stock { id = 1; } call pay { } } limit 1 to order { };
  split body.lines to order { text.x[2] = index; };
  aggregate by body.id when count > 2 count 3 within 60000 limit 8 to batch { key = key; total = sum(items[*].total, 2); };
  multicast { branch { map to order { }; } branch { to bank; } }
}
`

func TestP21_3BlanksDoNotMatter(t *testing.T) {
	want := parsed(t, everything)
	tokens, _, _, _ := lexer.Scan(everything)
	r := rand.New(rand.NewSource(1))
	blanks := []string{" ", "\n", "\t", "// to x;\n", " // {\n\n", "  \n\t "}
	for range 200 {
		var s strings.Builder
		for i, x := range tokens[:len(tokens)-1] {
			if i > 0 && (!x.Joined || r.Intn(3) == 0 && canStandAlone(tokens, i)) {
				for range 1 + r.Intn(3) {
					s.WriteString(blanks[r.Intn(len(blanks))])
				}
			}
			switch x.Kind {
			case lexer.String:
				s.WriteString(lexer.Quote(x.Value))
			case lexer.Bytes:
				s.WriteString(lexer.QuoteBytes(x.Value))
			default:
				s.WriteString(x.Text)
			}
		}
		s.WriteString(blanks[r.Intn(len(blanks))])
		if p := parsed(t, s.String()); !reflect.DeepEqual(p, want) {
			t.Fatalf("Parse(%q) = %+v", s.String(), p)
		}
	}
}

// canStandAlone reports whether a token that is joined need not be.
func canStandAlone(tokens []lexer.Token, i int) bool {
	inPath := func(text string) bool { return text == "." || text == "[" || text == "]" || text == "?" || text == "-" }
	return !inPath(tokens[i].Text) && !inPath(tokens[i-1].Text)
}

// declarationsOf returns the declarations of a program, which begin at the beginning of a line.
func declarationsOf(s string) []string {
	var l []string
	for line := range strings.Lines(s) {
		if first := line[0]; first >= 'a' && first <= 'z' {
			l = append(l, "")
		}
		l[len(l)-1] += line
	}
	return l
}

// kindOf returns the kind of a declaration, which is one for all endpoints.
func kindOf(s string) string {
	switch word, _, _ := strings.Cut(s, " "); word {
	case "source", "sink", "queue":
		return "endpoint"
	default:
		return word
	}
}

func TestP21_3OrderOfDeclarations(t *testing.T) {
	want := parsed(t, everything)
	l := declarationsOf(everything)
	r := rand.New(rand.NewSource(2))
	for range 500 {
		i := 1 + r.Intn(len(l)-2)
		if kindOf(l[i]) == kindOf(l[i+1]) {
			continue
		}
		l[i], l[i+1] = l[i+1], l[i]
		if p := parsed(t, strings.Join(l, "")); !reflect.DeepEqual(p, want) {
			t.Fatalf("%q is another program", strings.Join(l, ""))
		}
	}
	// The order of those of the same kind matters.
	l = declarationsOf("program 1; \nsource a: b 1 as tagged;\nsink c: b 1 as tagged;\n")
	if p := parsed(t, l[0]+l[2]+l[1]); p.Endpoints[0].Name != "c" || p.Endpoints[1].Name != "a" {
		t.Errorf("%+v", p)
	}
}

func TestP21_3CutOff(t *testing.T) {
	tokens, _, _, _ := lexer.Scan(everything)
	lines := strings.SplitAfter(everything, "\n")
	whole := map[int]bool{}
	at := 0
	for _, s := range declarationsOf(everything) {
		at += len(s)
		whole[at] = true
	}
	for i, x := range tokens {
		at := x.Column - 1
		for _, l := range lines[:x.Line-1] {
			at += len(l)
		}
		want := api.ErrSyntax
		if whole[at] {
			want = api.OK
		}
		if _, _, _, e := parser.Parse(everything[:at]); e != want {
			t.Errorf("the program of the first %d tokens: %d, want %d", i, e, want)
		}
	}
}

// randomType returns a random type with at most a number of levels, which is not always valid.
func randomType(r *rand.Rand, levels int) T {
	kind := 1 + r.Intn(10)
	if levels == 1 {
		kind = 1 + r.Intn(7)
	}
	x := T{Kind: kind, Min: r.Intn(50), Max: 50 + r.Intn(50)}
	switch kind {
	case api.Bool:
		return T{Kind: kind}
	case api.Int, api.Date, api.Time:
		x.Min -= r.Intn(100)
	case api.Decimal:
		x.Min -= r.Intn(100)
		x.Scale = r.Intn(13)
	case api.Text:
		if r.Intn(2) == 0 {
			return T{Kind: kind, Words: []string{"", "\n\"", "a\\b", "é", "😀\x7F"}[r.Intn(4):]}
		}
	case api.List:
		x.Elem = []T{randomType(r, levels-1)}
		x.Min = r.Intn(3)
	case api.Record, api.Variant:
		return randomFields(r, kind, levels)
	}
	return x
}

func randomFields(r *rand.Rand, kind, levels int) T {
	x := T{Kind: kind}
	for n := range r.Intn(4) + kind - api.Record {
		f := api.TypeField{Number: n*7 + 1, Name: "f" + strconv.Itoa(n), Need: api.Required, Type: randomType(r, levels-1)}
		if kind == api.Record {
			f.Need = 1 + r.Intn(3)
		}
		if f.Need == api.Defaulted {
			v, _ := schema.Least(f.Type)
			f.Default = []V{v}
		}
		x.Fields = append(x.Fields, f)
	}
	return x
}

// randomValue returns a random value with at most a number of levels.
func randomValue(r *rand.Rand, levels int) V {
	kind := r.Intn(10)
	if levels == 1 {
		kind = r.Intn(7)
	}
	n := r.Intn(2000) - 1000
	text := []string{"", "a", "\"\\\n", "é\x00", "😀"}[r.Intn(5)]
	switch kind {
	case 0:
		return value.Bool(n > 0)
	case 1:
		return value.Int(n)
	case 2:
		return value.Decimal(n, r.Intn(13))
	case 3:
		return value.Text(text)
	case 4:
		return value.Bytes(text + "\xFF")
	case 5:
		return value.Date(n)
	case 6:
		return value.Time(n * 1001)
	case 7:
		var l []V
		for range r.Intn(4) {
			l = append(l, randomValue(r, levels-1))
		}
		return value.List(l...)
	case 8:
		var l []api.Field
		for _, name := range []string{"a", "date", "true", "x", "f_1"}[r.Intn(5):] {
			l = append(l, api.Field{Name: name, Value: randomValue(r, levels-1)})
		}
		return value.Record(l...)
	}
	return value.Variant([]string{"card", "true", "date", "null", "x"}[r.Intn(5)], randomValue(r, levels-1))
}

func TestP21_3LiteralTexts(t *testing.T) {
	r := rand.New(rand.NewSource(3))
	types := 0
	for range 5000 {
		x := randomType(r, 1+r.Intn(4))
		text, e := literal.TypeText(x)
		if e == api.OK {
			types++
			u := lexer.New(text)
			if y := parser.ReadType(u); !schema.Equal(x, y) || u.Peek().Kind != lexer.End {
				t.Fatalf("ReadType(%s) = %+v", text, y)
			}
		}
		v := randomValue(r, 1+r.Intn(5))
		text, e = literal.Text(v)
		u := lexer.New(text)
		if w := parser.ReadValue(u); e != api.OK || !value.Equal(v, w) || u.Peek().Kind != lexer.End {
			t.Fatalf("ReadValue(%s) = %+v, %d", text, w, e)
		}
	}
	if types < 3000 {
		t.Errorf("%d types", types)
	}
}

func TestP21_3ResultsAreNew(t *testing.T) {
	a, b := parsed(t, everything), parsed(t, everything)
	a.Schemas[0].Type.Fields[0].Name, a.Endpoints[2].Format.Widths[0], a.Services[0].Name = "", 0, ""
	a.Routes[1].Steps[4].Mapping.Rules[0] = api.Rule{}
	a.Routes[0].Steps[1].Branches[0] = api.Branch{}
	if !reflect.DeepEqual(b, parsed(t, everything)) || reflect.DeepEqual(a, b) {
		t.Error("programs share memory")
	}
}
