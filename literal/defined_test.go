package literal_test

import (
	"encoding/hex"
	"math/rand"
	"regexp"
	"slices"
	"strconv"
	"strings"
	"testing"
	"unicode/utf8"

	"manifold/api"
	"manifold/calendar"
	"manifold/charset"
	"manifold/decimal"
	"manifold/literal"
	"manifold/schema"
	"manifold/value"
)

// defined is a token in the words of the document: its kind is a word, a number, a string, bytes, a symbol (which is the symbol itself), nothing at the end, or wrong.
type defined struct {
	kind, text, meant string
	at                int
	failure           failing
}

var (
	wordForm   = regexp.MustCompile(`^[A-Za-z][A-Za-z0-9_]*`)
	numberForm = regexp.MustCompile(`^-?[0-9]+(\.[0-9]+|d)?`)
	symbolForm = regexp.MustCompile(`^(\.\.|[][{}(),:=?|])`)
	escapeForm = regexp.MustCompile(`^\\(["\\nrt]|u\{([0-9a-fA-F]{1,6})\})`)
	nameForm   = regexp.MustCompile(`^[a-z][a-z0-9_]{0,31}$`)
)

// tokensOf returns the tokens of a text up to the end, or the first one that is wrong.
func tokensOf(s string) []defined {
	var l []defined
	for i := 0; ; {
		for i < len(s) && strings.ContainsRune(" \t\r\n", rune(s[i])) {
			i++
		}
		t := tokenAt(s, i)
		l = append(l, t)
		if t.kind == "" || t.kind == "wrong" {
			return l
		}
		i += len(t.text)
	}
}

func wrongAt(at int, e api.Errno) defined {
	return defined{kind: "wrong", failure: failing{offset: at, e: e}}
}

func tokenAt(s string, i int) defined {
	rest := s[i:]
	t := defined{at: i}
	switch {
	case rest == "":
		return t
	case strings.HasPrefix(rest, `x"`):
		return bytesAt(s, i)
	case rest[0] == '"':
		return stringAt(s, i)
	case wordForm.MatchString(rest):
		t.kind, t.text = "word", wordForm.FindString(rest)
	case numberForm.MatchString(rest):
		t.kind, t.text = "number", numberForm.FindString(rest)
		if _, e := decimal.Parse(strings.TrimSuffix(t.text, "d")); e != api.OK {
			return wrongAt(i, e)
		}
	case symbolForm.MatchString(rest):
		t.text = symbolForm.FindString(rest)
		t.kind = t.text
	default:
		return wrongAt(i, api.ErrSyntax)
	}
	return t
}

func bytesAt(s string, i int) defined {
	digits := strings.IndexFunc(s[i+2:], func(c rune) bool { return !strings.ContainsRune("0123456789abcdefABCDEF", c) })
	switch {
	case digits < 0:
		return wrongAt(i, api.ErrShort)
	case s[i+2+digits] != '"' || digits%2 == 1:
		return wrongAt(i+2+digits, api.ErrSyntax)
	}
	b, _ := hex.DecodeString(s[i+2 : i+2+digits])
	return defined{kind: "bytes", at: i, text: s[i : i+digits+3], meant: string(b)}
}

func stringAt(s string, i int) defined {
	meant := ""
	for j := i + 1; j < len(s); {
		c := s[j]
		m := escapeForm.FindStringSubmatch(s[j:])
		switch {
		case c == '"' && !utf8.ValidString(s[i:j]):
			return wrongAt(i, api.ErrText)
		case c == '"':
			return defined{kind: "string", at: i, text: s[i : j+1], meant: meant}
		case c < 32 || c == 127:
			return wrongAt(j, api.ErrByte)
		case c != '\\' || j == len(s)-1:
			meant += s[j : j+1]
			j++
		case m == nil:
			return wrongAt(j, api.ErrSyntax)
		case m[2] != "":
			n, _ := strconv.ParseInt(m[2], 16, 64)
			if n > 0x10FFFF || n >= 0xD800 && n < 0xE000 {
				return wrongAt(j, api.ErrText)
			}
			meant += string(rune(n))
			j += len(m[0])
		default:
			meant += map[string]string{`"`: `"`, `\`: `\`, "n": "\n", "r": "\r", "t": "\t"}[m[1]]
			j += len(m[0])
		}
	}
	return wrongAt(i, api.ErrShort)
}

// texts returns the texts of the tokens of a text in which nothing is wrong.
func texts(s string) []string {
	var l []string
	for _, t := range tokensOf(s) {
		l = append(l, t.text)
	}
	return l[:len(l)-1]
}

// reading reads tokens in the words of the document, and panics with the first failure.
type reading struct {
	tokens []defined
	i      int
}

func fail(at int, e api.Errno) { panic(failing{offset: at, e: e}) }

// next returns the next token, whose own error comes first.
func (r *reading) next() defined {
	t := r.tokens[r.i]
	if t.kind == "wrong" {
		panic(t.failure)
	}
	return t
}

// take takes a token of a kind, and reads the next one.
func (r *reading) take(kind string) defined {
	t := r.next()
	if t.kind != kind {
		fail(t.at, api.ErrSyntax)
	}
	if kind != "" {
		r.i++
		r.next()
	}
	return t
}

// taken takes a token if it is of a kind.
func (r *reading) taken(kind string) bool {
	is := r.next().kind == kind
	if is {
		r.take(kind)
	}
	return is
}

// many reads what stands between two symbols.
func (r *reading) many(first, last string, read func()) {
	r.take(first)
	for n := 0; !r.taken(last); n++ {
		if n > 0 {
			r.take(",")
			// A comma is followed by another part.
			if r.next().kind == last {
				fail(r.next().at, api.ErrSyntax)
			}
		}
		read()
		if k := r.next().kind; k != "," && k != last {
			fail(r.next().at, api.ErrSyntax)
		}
	}
}

func (r *reading) name(before map[string]bool) string {
	t := r.take("word")
	if !nameForm.MatchString(t.text) {
		fail(t.at, api.ErrName)
	}
	if before[t.text] {
		fail(t.at, api.ErrDuplicate)
	}
	before[t.text] = true
	return t.text
}

func (r *reading) value(around int) V {
	t := r.next()
	if !slices.Contains([]string{"word", "number", "string", "bytes", "[", "{"}, t.kind) {
		fail(t.at, api.ErrSyntax)
	}
	if around == api.MaxDepth {
		fail(t.at, api.ErrDepth)
	}
	v := V{}
	switch t.kind {
	case "[":
		v.Kind = api.List
		r.many("[", "]", func() { v.List = append(v.List, r.value(around+1)) })
		return v
	case "{":
		fields := map[string]V{}
		before := map[string]bool{}
		r.many("{", "}", func() {
			name := r.name(before)
			r.take(":")
			fields[name] = r.value(around + 1)
		})
		v.Kind = api.Record
		for _, name := range sorted(fields) {
			v.Fields = append(v.Fields, at(name, fields[name]))
		}
		return v
	case "word":
		return r.word(around)
	}
	r.take(t.kind)
	n, _ := decimal.Parse(strings.TrimSuffix(t.text, "d"))
	switch {
	case t.kind == "string":
		return value.Text(t.meant)
	case t.kind == "bytes":
		return value.Bytes(t.meant)
	case strings.ContainsAny(t.text, ".d"):
		return value.Decimal(n.Int, n.Scale)
	}
	return value.Int(n.Int)
}

func sorted(m map[string]V) []string {
	var l []string
	for name := range m {
		l = append(l, name)
	}
	slices.Sort(l)
	return l
}

func (r *reading) word(around int) V {
	t := r.take("word")
	if r.next().kind == "(" {
		if !nameForm.MatchString(t.text) {
			fail(t.at, api.ErrName)
		}
		r.take("(")
		v := value.Variant(t.text, r.value(around+1))
		r.take(")")
		return v
	}
	switch {
	case t.text == "true" || t.text == "false":
		return value.Bool(t.text == "true")
	case t.text == "date":
		return value.Date(r.number(calendar.Parse))
	case t.text == "time":
		return value.Time(r.number(calendar.ParseTime))
	case t.text != "null" || around > 0:
		fail(t.at, api.ErrSyntax)
	}
	return V{}
}

// number reads the string of a date or a time.
func (r *reading) number(parse func(s string) (int, api.Errno)) int {
	t := r.take("string")
	n, e := parse(t.meant)
	if e != api.OK {
		fail(t.at, e)
	}
	return n
}

var integerForm = regexp.MustCompile(`^-?[0-9]+$`)

// numberLike reads a number that must have a form.
func (r *reading) numberLike(form *regexp.Regexp) int {
	t := r.take("number")
	if !form.MatchString(t.text) {
		fail(t.at, api.ErrSyntax)
	}
	n, _ := decimal.Parse(t.text)
	return n.Int
}

func (r *reading) typ(around int) T {
	if t := r.next(); t.kind == "word" && around == api.MaxDepth {
		fail(t.at, api.ErrDepth)
	}
	t := r.take("word")
	kind, e := schema.FindKind(t.text)
	if e != api.OK {
		fail(t.at, api.ErrSyntax)
	}
	x := T{Kind: kind}
	if kind == api.Bool {
		return x
	}
	if kind == api.Record || kind == api.Variant {
		before := map[string]bool{}
		r.many("(", ")", func() { x.Fields = append(x.Fields, r.field(before, around+1)) })
		return x
	}
	r.take("(")
	bound := func() int { return r.numberLike(integerForm) }
	switch {
	case kind == api.Decimal:
		x.Scale = bound()
		r.take(",")
		bound = func() int { return r.numberLike(scaledForm(x.Scale)) }
	case kind == api.Date:
		bound = func() int { return r.number(calendar.Parse) }
	case kind == api.Time:
		bound = func() int { return r.number(calendar.ParseTime) }
	case kind == api.Text && r.next().kind == "string":
		x.Words = append(x.Words, r.take("string").meant)
		for r.taken("|") {
			x.Words = append(x.Words, r.take("string").meant)
		}
	}
	if len(x.Words) == 0 {
		x.Min = bound()
		r.take("..")
		x.Max = bound()
	}
	if kind == api.List {
		r.take(",")
		x.Elem = []T{r.typ(around + 1)}
	}
	r.take(")")
	return x
}

func scaledForm(scale int) *regexp.Regexp {
	if scale == 0 {
		return integerForm
	}
	if scale < 0 || scale > 12 {
		return regexp.MustCompile("^no number$")
	}
	return regexp.MustCompile(`^-?[0-9]+\.[0-9]{` + strconv.Itoa(scale) + `}$`)
}

func (r *reading) field(before map[string]bool, around int) F {
	f := F{Number: r.numberLike(integerForm), Name: r.name(before), Need: api.Required}
	if r.taken("?") {
		f.Need = api.Optional
	}
	r.take(":")
	f.Type = r.typ(around)
	if t := r.next(); t.kind == "=" {
		if f.Need == api.Optional {
			fail(t.at, api.ErrSyntax)
		}
		r.take("=")
		f.Need, f.Default = api.Defaulted, []V{r.value(0)}
	}
	return f
}

// asDefined reads a text with a function, and returns the first failure.
func asDefined(s string, read func(r *reading)) (found failing) {
	defer func() {
		if f, is := recover().(failing); is {
			found = f
		}
	}()
	r := &reading{tokens: tokensOf(s)}
	r.next()
	read(r)
	r.take("")
	return failing{}
}

func parseAsDefined(s string) (v V, f failing) {
	f = asDefined(s, func(r *reading) { v = r.value(0) })
	if f.e == api.OK && !value.IsNull(v) {
		f.e = value.Check(v)
	}
	if f.e != api.OK {
		v = V{}
	}
	return v, f
}

func parseTypeAsDefined(s string) (x T, f failing) {
	f = asDefined(s, func(r *reading) { x = r.typ(0) })
	if f.e == api.OK {
		f.e = schema.Check(x)
	}
	if f.e != api.OK {
		x = T{}
	}
	return x, f
}

// compareValue compares Parse of a text with what is defined, and counts the errors.
func compareValue(t *testing.T, s string, found map[api.Errno]int) {
	t.Helper()
	want, f := parseAsDefined(s)
	v, offset, e := literal.Parse(s)
	if !value.Equal(v, want) || offset != f.offset || e != f.e {
		t.Fatalf("Parse(%q) = %v, %d, %d, want %v, %d, %d", s, v, offset, e, want, f.offset, f.e)
	}
	found[e]++
	if e == api.OK {
		text, _ := literal.Text(v)
		if again, _, e := literal.Parse(text); !value.Equal(again, v) || e != api.OK {
			t.Fatalf("Parse(%q) = %v, whose text is %q", s, v, text)
		}
	}
}

func compareType(t *testing.T, s string, found map[api.Errno]int) {
	t.Helper()
	want, f := parseTypeAsDefined(s)
	x, offset, e := literal.ParseType(s)
	if !schema.Equal(x, want) || offset != f.offset || e != f.e {
		t.Fatalf("ParseType(%q) = %v, %d, %d, want %v, %d, %d", s, x, offset, e, want, f.offset, f.e)
	}
	found[e]++
	if e == api.OK {
		text, _ := literal.TypeText(x)
		if again, _, e := literal.ParseType(text); !schema.Equal(again, x) || e != api.OK {
			t.Fatalf("ParseType(%q) = %v, whose text is %q", s, x, text)
		}
	}
}

// eachSequence calls a function with the sequences of at most a number of tokens, with blanks between them and without.
func eachSequence(tokens []string, most int, f func(s string)) {
	var further func(spaced, dense string, left int)
	further = func(spaced, dense string, left int) {
		f(spaced)
		f(dense)
		if left == 0 {
			return
		}
		for _, x := range tokens {
			further(spaced+" "+x, dense+x, left-1)
		}
	}
	further("", "", most)
}

func expectAll(t *testing.T, found map[api.Errno]int, least int, l ...api.Errno) {
	t.Helper()
	for _, e := range l {
		if found[e] < least {
			t.Errorf("%d texts with the error %d", found[e], e)
		}
	}
}

func TestP13_2AsDefined(t *testing.T) {
	found := map[api.Errno]int{}
	tokens := []string{"1", "-2.5", "3d", `"a"`, `"1970-01-01"`, `x"00"`, "[", "]", "{", "}", "(", ")", ":", ",", "..", "null", "true", "date", "a", "B", "x", "00", `"`, "#", "-", "."}
	eachSequence(tokens, 3, func(s string) { compareValue(t, s, found) })
	few := []string{"1", `"a"`, "[", "]", "{", "}", "(", ")", ":", ",", "null", "date", "a", "B", `"`}
	for _, before := range []string{"{a: 1,", "[", "a(", "{b:", "[[[[[[[", "{a:[[[[[[", "a({a: x(", "date"} {
		eachSequence(few, 3, func(s string) { compareValue(t, before+s, found) })
	}
	bits := []string{`"`, `\`, "u", "{", "}", "4", "f", "n", "\n", "\x7F", "\xC3", "\xA9", "x", "g", "d800", "110000", "é"}
	for before, most := range map[string]int{`"`: 4, `x"`: 4, `"\u{`: 3, "": 3, `["`: 3, `"\u{4`: 3} {
		eachSequence(bits, most, func(s string) { compareValue(t, before+s, found) })
	}
	for _, s := range charsetEdges() {
		compareValue(t, s, found)
	}
	expectAll(t, found, 300, api.OK, api.ErrSyntax, api.ErrShort, api.ErrByte, api.ErrText, api.ErrName, api.ErrDuplicate, api.ErrDepth)
}

// charsetEdges are texts with escapes of the code points at which something changes.
func charsetEdges() []string {
	var l []string
	for _, n := range []int{0, 0x1F, 0x7F, 0x80, 0x7FF, 0x800, charset.FirstSurrogate - 1, charset.FirstSurrogate, charset.LastSurrogate, charset.LastSurrogate + 1, 0xFFFF, 0x10000, charset.MaxPoint, charset.MaxPoint + 1, 0xFFFFFF} {
		l = append(l, `"\u{`+hexOf(n)+`}"`, `"\u{`+strings.ToUpper(hexOf(n))+`}x"`, `"\u{0`+hexOf(n)+`}"`)
	}
	return l
}

func TestP13_3AsDefined(t *testing.T) {
	found := map[api.Errno]int{}
	tokens := []string{"1", "-2.5", "3d", `"a"`, `"1970-01-01"`, `"1970-02-30"`, "(", ")", "[", ":", ",", "..", "=", "?", "|", "null", "bool", "a", "B", `"`}
	deep := strings.Repeat("list(0..1, ", 7)
	for _, before := range []string{"", "int", "int(1", "decimal(1, 0.5", "decimal(0, 5", "decimal(", "text(", `text("a" `, "bytes(0", "date(", `date("1970-01-01"`, "time(", "list(0..1", "list(0..1, ", deep, "list(0..1, " + deep, "record(", "record(1", "record(1 a", "record(1 a:", "record(1 a: bool", "record(1 a?: bool", "record(1 a: bool, 2", "record(1 a: bool =", "variant(", "variant(1 a: bool", "record(1 a: list(0..9, bool) = "} {
		eachSequence(tokens, 2, func(s string) { compareType(t, before+s, found) })
		for _, end := range []string{")", " 1)", " bool)", ": bool)"} {
			eachSequence(tokens, 2, func(s string) { compareType(t, before+s+end, found) })
		}
	}
	for _, before := range []string{"text(", "int(", "date(", "record(1 a: bool"} {
		eachSequence(tokens, 3, func(s string) { compareType(t, before+s, found) })
	}
	expectAll(t, found, 5, api.OK, api.ErrSyntax, api.ErrShort, api.ErrDate, api.ErrName, api.ErrDuplicate, api.ErrDepth, api.ErrRange, api.ErrType)
}

// odd are what is put into texts to damage them.
var odd = []string{"", " ", "1", "0", "-", "d", ".", "..", ",", ":", "=", "?", "|", "(", ")", "[", "]", "{", "}", `"`, `\`, "x", `x"0"`, "a", "A", "_", "null", "true", "date", "bool", "\n", "#", "é", "\xFF", "1.5", "record(", "[[[[", "{a:1,", ", a: 1"}

// changed returns a text that differs from another one in something.
func changed(r *rand.Rand, s string) string {
	i := r.Intn(len(s) + 1)
	j := min(len(s), i+r.Intn(2))
	tokens := tokensOf(s)
	tokens = tokens[:len(tokens)-1]
	if len(tokens) == 0 || r.Intn(3) == 0 {
		return s[:i] + odd[r.Intn(len(odd))] + s[j:]
	}
	t := tokens[r.Intn(len(tokens))]
	before, behind := s[:t.at], s[t.at+len(t.text):]
	if k := r.Intn(len(t.text)); strings.IndexByte("0123456789", t.text[k]) >= 0 && r.Intn(2) == 0 {
		return before + t.text[:k] + string("0123456789"[r.Intn(10)]) + t.text[k+1:] + behind
	}
	// A token is left out, or another one of the text is put there, often of the same kind.
	other := tokens[r.Intn(len(tokens))]
	if other.kind == t.kind {
		return before + other.text + behind
	}
	return before + []string{"", other.text, other.text + t.text}[r.Intn(3)] + behind
}

func TestP13_2Changed(t *testing.T) {
	r := rand.New(rand.NewSource(4))
	found := map[api.Errno]int{}
	for range 100000 {
		s, _ := literal.Text(someValue(r, 1+r.Intn(4)))
		for range 1 + r.Intn(3) {
			s = changed(r, s)
		}
		compareValue(t, s, found)
	}
	expectAll(t, found, 20, api.OK, api.ErrSyntax, api.ErrShort, api.ErrByte, api.ErrText, api.ErrName, api.ErrDuplicate, api.ErrDate)
}

func TestP13_3Changed(t *testing.T) {
	r := rand.New(rand.NewSource(5))
	found := map[api.Errno]int{}
	for range 50000 {
		s, _ := literal.TypeText(someType(r, 1+r.Intn(4)))
		for range 1 + r.Intn(3) {
			s = changed(r, s)
		}
		compareType(t, s, found)
	}
	expectAll(t, found, 20, api.OK, api.ErrSyntax, api.ErrShort, api.ErrByte, api.ErrText, api.ErrName, api.ErrDuplicate, api.ErrDate, api.ErrRange, api.ErrOrder)
	expectAll(t, found, 5, api.ErrType)
}
