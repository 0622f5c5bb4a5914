package literal_test

import (
	"math/rand"
	"slices"
	"strings"
	"testing"

	"manifold/api"
	"manifold/literal"
	"manifold/schema"
	"manifold/value"
)

var oddTexts = []string{"", "a", "\"", "\\", "\n", "\r", "\t", "\x00", "\x7F", "é", "€", "\U00010348", "u{41}", " ", "x\"", "//"}

func someText(r *rand.Rand, most int) string {
	s := ""
	for range r.Intn(most + 1) {
		s += oddTexts[r.Intn(len(oddTexts))]
	}
	return s
}

var someNames = []string{"a", "b", "c_1", "d", "x", "null", "true", "date", "time", "bool", "list", "record", strings.Repeat("n", 32)}

func someName(r *rand.Rand) string { return someNames[r.Intn(len(someNames))] }

// someValue returns a valid value with at most a number of levels.
func someValue(r *rand.Rand, levels int) V {
	v := V{Kind: 1 + r.Intn(10)}
	if levels == 1 {
		v.Kind = 1 + r.Intn(7)
	}
	switch v.Kind {
	case api.Bool:
		v.Int = r.Intn(2)
	case api.Text:
		v.Text = someText(r, 4)
	case api.Bytes:
		v.Text = string([]byte{0, byte(r.Intn(256)), '"', 255}[r.Intn(3):])
	case api.Date:
		v.Int = value.MinDate + r.Intn(value.MaxDate-value.MinDate+1)
	case api.Time:
		v.Int = value.MinTime + r.Intn(value.MaxTime-value.MinTime+1)
		v.Int -= v.Int % []int{1, 1000}[r.Intn(2)]
	case api.List:
		for range r.Intn(4) {
			v.List = append(v.List, someValue(r, levels-1))
		}
	case api.Record:
		var l []api.Field
		for range r.Intn(4) {
			l = append(l, at(someName(r), someValue(r, levels-1)))
		}
		v = value.Record(l...)
	case api.Variant:
		v = value.Variant(someName(r), someValue(r, levels-1))
	default:
		v.Int = r.Intn([]int{2, 2000, 2*most + 1}[r.Intn(3)])
		v.Int = []int{v.Int, -v.Int}[r.Intn(2)] % (most + 1)
		if v.Kind == api.Decimal {
			v.Scale = r.Intn(13)
		}
	}
	return v
}

// someType returns a valid type with at most a number of levels.
func someType(r *rand.Rand, levels int) T {
	x := T{Kind: 1 + r.Intn(10)}
	if levels == 1 {
		x.Kind = 1 + r.Intn(7)
	}
	switch x.Kind {
	case api.Bool:
	case api.Record, api.Variant:
		x.Fields = someFields(r, x.Kind, levels)
	case api.Text, api.Bytes, api.List:
		x.Min = r.Intn(3)
		x.Max = x.Min + r.Intn(5)
		if x.Kind == api.Text && r.Intn(2) == 0 {
			l := []string{someText(r, 2), someText(r, 2), someText(r, 2)}
			slices.Sort(l)
			x = words(slices.Compact(l)...)
		}
	default:
		x.Min = r.Intn(2000) - 1000
		x.Max = x.Min + r.Intn(2000)
	}
	if x.Kind == api.Decimal {
		x.Scale = r.Intn(13)
	}
	if x.Kind == api.List {
		x.Elem = []T{someType(r, levels-1)}
	}
	return x
}

func someFields(r *rand.Rand, kind, levels int) []F {
	names := slices.Clone(someNames)
	r.Shuffle(len(names), func(i, j int) { names[i], names[j] = names[j], names[i] })
	least, needs := 0, 3
	if kind == api.Variant {
		least, needs = 1, 1
	}
	var l []F
	for i := range least + r.Intn(4) {
		f := F{Number: []int{1, 2, 30, 9999}[i] + i, Name: names[i], Need: 1 + r.Intn(needs), Type: someType(r, levels-1)}
		f.Number = min(f.Number, schema.MaxField)
		if f.Need == api.Defaulted {
			v, e := schema.Least(f.Type)
			if e != api.OK {
				panic("a type that is not valid")
			}
			f.Default = []V{v}
		}
		l = append(l, f)
	}
	return l
}

func TestP13_5Inverse(t *testing.T) {
	r := rand.New(rand.NewSource(1))
	seen := map[string]V{}
	for range 30000 {
		v := someValue(r, 1+r.Intn(4))
		kept := value.Clone(v)
		s, e := literal.Text(v)
		again, offset, f := literal.Parse(s)
		if e != api.OK || f != api.OK || offset != 0 || !value.Equal(again, v) || !value.Equal(v, kept) {
			t.Fatalf("Parse(%s) = %v, %d, %d, want %v", s, again, offset, f, v)
		}
		if other, has := seen[s]; has && !value.Equal(other, v) {
			t.Fatalf("%v and %v have the same text %s", other, v, s)
		}
		seen[s] = v
		damage(again)
		if again, _, _ := literal.Parse(s); !value.Equal(again, v) {
			t.Fatal("the values of two calls share memory")
		}
	}
}

// damage changes everything in the lists of a value.
func damage(v V) {
	for i := range v.List {
		damage(v.List[i])
		v.List[i] = V{}
	}
	for i := range v.Fields {
		damage(v.Fields[i].Value)
		v.Fields[i] = api.Field{}
	}
}

func TestP13_5InverseOfTypes(t *testing.T) {
	r := rand.New(rand.NewSource(2))
	seen := map[string]T{}
	for range 30000 {
		x := someType(r, 1+r.Intn(4))
		kept := schema.Clone(x)
		s, e := literal.TypeText(x)
		again, offset, f := literal.ParseType(s)
		if e != api.OK || f != api.OK || offset != 0 || !schema.Equal(again, x) || !schema.Equal(x, kept) {
			t.Fatalf("ParseType(%s) = %v, %d, %d, want %v", s, again, offset, f, x)
		}
		if other, has := seen[s]; has && !schema.Equal(other, x) {
			t.Fatalf("%v and %v have the same text %s", other, x, s)
		}
		seen[s] = x
	}
}

// blank returns some blanks, but at least a number of them.
func blank(r *rand.Rand, least int) string {
	s := ""
	for range least + r.Intn(2)*r.Intn(3) {
		s += string(" \t\r\n"[r.Intn(4)])
	}
	return s
}

// spread returns the text of tokens with blanks between them, which are needed only where letters and digits would meet.
func spread(r *rand.Rand, tokens []string) string {
	s := blank(r, 0)
	for i, x := range tokens {
		s += x
		least := 0
		if i+1 < len(tokens) && isAlphanumeric(x[len(x)-1]) && isAlphanumeric(tokens[i+1][0]) {
			least = 1
		}
		s += blank(r, least)
	}
	return s
}

func isAlphanumeric(c byte) bool {
	return c == '_' || strings.IndexByte("0123456789", c) >= 0 || c|0x20 >= 'a' && c|0x20 <= 'z'
}

// looseText returns a string token for a text, some of whose bytes are escaped though they need not be.
func looseText(r *rand.Rand, s string) string {
	token := ""
	for _, p := range s {
		plain := literal.Quote(string(p))
		if r.Intn(2) == 0 {
			hex := strings.Repeat("0", r.Intn(2)) + hexOf(int(p))
			if r.Intn(2) == 0 {
				hex = strings.ToUpper(hex)
			}
			plain = `"\u{` + hex + `}"`
		}
		token += plain[1 : len(plain)-1]
	}
	return `"` + token + `"`
}

func hexOf(n int) string {
	s := string("0123456789abcdef"[n%16])
	if n >= 16 {
		s = hexOf(n/16) + s
	}
	return s
}

// looseTokens returns tokens of a value in another way than Text: with fields in any order, escapes and capital digits.
func looseTokens(r *rand.Rand, v V) []string {
	var l []string
	switch v.Kind {
	case api.Text:
		return []string{looseText(r, v.Text)}
	case api.Bytes:
		return []string{"x" + strings.ToUpper(literal.QuoteBytes(v.Text))[1:]}
	case api.Date, api.Time:
		s, _ := literal.Text(v)
		word, token, _ := strings.Cut(s, " ")
		return []string{word, looseText(r, token[1:len(token)-1])}
	case api.List:
		for _, x := range v.List {
			l = slices.Concat(l, []string{","}, looseTokens(r, x))
		}
		return slices.Concat([]string{"["}, l[min(1, len(l)):], []string{"]"})
	case api.Record:
		for _, i := range r.Perm(len(v.Fields)) {
			l = slices.Concat(l, []string{",", v.Fields[i].Name, ":"}, looseTokens(r, v.Fields[i].Value))
		}
		return slices.Concat([]string{"{"}, l[min(1, len(l)):], []string{"}"})
	case api.Variant:
		return slices.Concat([]string{v.Text, "("}, looseTokens(r, v.List[0]), []string{")"})
	}
	s, _ := literal.Text(v)
	return []string{s}
}

func TestP13_5BlanksAndOrder(t *testing.T) {
	r := rand.New(rand.NewSource(3))
	for range 20000 {
		v := someValue(r, 1+r.Intn(4))
		s := spread(r, looseTokens(r, v))
		if again, offset, e := literal.Parse(s); !value.Equal(again, v) || offset != 0 || e != api.OK {
			t.Fatalf("Parse(%q) = %v, %d, %d, want %v", s, again, offset, e, v)
		}
	}
	for range 20000 {
		x := someType(r, 1+r.Intn(4))
		text, _ := literal.TypeText(x)
		s := spread(r, texts(text))
		if again, offset, e := literal.ParseType(s); !schema.Equal(again, x) || offset != 0 || e != api.OK {
			t.Fatalf("ParseType(%q) = %v, %d, %d, want %v", s, again, offset, e, x)
		}
	}
}
