package delimited_test

import (
	"encoding/hex"
	"math/big"
	"math/rand"
	"regexp"
	"slices"
	"strings"
	"testing"
	"time"
	"unicode/utf8"

	"manifold/api"
	"manifold/delimited"
	"manifold/fit"
	"manifold/schema"
	"manifold/value"
)

// stringsOf returns the strings of at most a number of bytes that consist of some parts.
func stringsOf(parts []string, most int) []string {
	l := []string{""}
	for i := 0; i < len(l); i++ {
		for _, p := range parts {
			if len(l[i])+len(p) <= most {
				l = append(l, l[i]+p)
			}
		}
	}
	return l
}

// allLines returns the lines of at most a number of bytes that consist of a, commas, quotation marks and line feeds, with their cells.
func allLines(most int) map[string][]C {
	cells := map[string]C{}
	for _, s := range stringsOf([]string{"a"}, most) {
		cells[s] = bare(s)
	}
	for _, s := range stringsOf([]string{"a", ",", "\n", `""`}, most-2) {
		cells[`"`+s+`"`] = quoted(strings.ReplaceAll(s, `""`, `"`))
	}
	l := map[string][]C{}
	var add func(line string, before []C)
	add = func(line string, before []C) {
		for s, c := range cells {
			if len(line)+len(s) <= most {
				next := append(slices.Clip(before), c)
				l[line+s] = next
				add(line+s+",", next)
			}
		}
	}
	add("", nil)
	return l
}

func TestP11_2AsDefined(t *testing.T) {
	const most = 7
	lines := allLines(most + 1) // one byte more is enough to go on from everything from which a line can go on
	beginnings := map[string]bool{}
	for line := range lines {
		for i := range len(line) + 1 {
			beginnings[line[:i]] = true
		}
	}
	found := map[api.Errno]int{}
	for _, s := range stringsOf([]string{"a", ",", `"`, "\n"}, most) {
		want, wantAt, wantE := lines[s], 0, api.OK
		if want == nil {
			for wantAt < len(s) && beginnings[s[:wantAt+1]] {
				wantAt++
			}
			before := lines[s[:wantAt]]
			switch {
			case wantAt == len(s):
				wantE = api.ErrTruncated
			case before[len(before)-1].Quoted:
				wantE = api.ErrSyntax
			default:
				wantE = api.ErrByte
			}
		}
		cells, at, e := delimited.Split(s, ',')
		if !slices.Equal(cells, want) || at != wantAt || e != wantE {
			t.Fatalf("Split(%q) = %v, %d, %d, want %v, %d, %d", s, cells, at, e, want, wantAt, wantE)
		}
		if e == api.OK {
			if line, e := delimited.Join(cells, ','); line != s || e != api.OK {
				t.Fatalf("Join(%v) = %q, %d, want %q", cells, line, e, s)
			}
		}
		found[e]++
	}
	for _, e := range []api.Errno{api.OK, api.ErrByte, api.ErrSyntax, api.ErrTruncated} {
		if found[e] < 500 {
			t.Errorf("%d lines with the error %d", found[e], e)
		}
	}
}

// parts are what texts and damaged lines are made of.
var parts = []string{"", "a", "\"", "\"\"", ",", ";", ":", "\n", "\r", " ", "0", "7", "-", ".", "é", "\xFF", "true", "00", "x"}

func someText(r *rand.Rand, most int) string {
	s := ""
	for range r.Intn(most + 1) {
		s += parts[r.Intn(len(parts))]
	}
	return s
}

func TestP11_7JoinAndSplit(t *testing.T) {
	r := rand.New(rand.NewSource(1))
	joined := 0
	for range 30000 {
		separator := int(separators[r.Intn(len(separators))])
		var cells []C
		for range 1 + r.Intn(6) {
			cells = append(cells, C{Text: someText(r, 3), Quoted: r.Intn(2) == 0})
		}
		kept := slices.Clone(cells)
		line, e := delimited.Join(cells, separator)
		if !slices.Equal(cells, kept) {
			t.Fatal("Join has changed its argument")
		}
		writable := !slices.ContainsFunc(cells, func(c C) bool {
			return !c.Quoted && strings.ContainsAny(c.Text, "\"\r\n"+string(rune(separator)))
		})
		if writable != (e == api.OK) || !writable && e != api.ErrByte {
			t.Fatalf("Join(%v, %c) = %q, %d", cells, separator, line, e)
		}
		if e != api.OK {
			continue
		}
		joined++
		again, at, e := delimited.Split(line, separator)
		if !slices.Equal(again, cells) || at != 0 || e != api.OK {
			t.Fatalf("Split(%q, %c) = %v, %d, %d, want %v", line, separator, again, at, e, cells)
		}
	}
	if joined < 5000 {
		t.Errorf("%d lists were joined", joined)
	}
}

// someType returns a flat type.
func someType(r *rand.Rand) T {
	names := []string{"a", "b", "c", "d", "e", "f"}
	r.Shuffle(len(names), func(i, j int) { names[i], names[j] = names[j], names[i] })
	var l []F
	for i := range 1 + r.Intn(5) {
		f := F{Name: names[i], Need: 1 + r.Intn(3), Type: someScalar(r)}
		if f.Need == api.Defaulted {
			f.Default = []V{oneOf(r, f.Type)}
		}
		l = append(l, f)
	}
	return record(l...)
}

func someScalar(r *rand.Rand) T {
	x := T{Kind: api.Bool + r.Intn(api.Time)}
	switch x.Kind {
	case api.Bool:
	case api.Text, api.Bytes:
		x.Min = r.Intn(2)
		x.Max = x.Min + r.Intn(5)
		if x.Kind == api.Text && r.Intn(3) == 0 {
			x = words([][]string{{""}, {"a", "b"}, {"", "\"", ",", "a;"}}[r.Intn(3)]...)
		}
	default:
		x.Min = r.Intn(200) - 100
		x.Max = x.Min + r.Intn(200)
	}
	if x.Kind == api.Decimal {
		x.Scale = r.Intn(3)
	}
	return x
}

// oneOf returns a value of a valid scalar type.
func oneOf(r *rand.Rand, t T) V {
	v := V{Kind: t.Kind, Scale: t.Scale}
	switch {
	case t.Kind == api.Bool:
		v.Int = r.Intn(2)
	case len(t.Words) > 0:
		v.Text = t.Words[r.Intn(len(t.Words))]
	case t.Kind == api.Text || t.Kind == api.Bytes:
		for v.Text = "-"; !fit.Fits(t, v); {
			v.Text = someText(r, 3)
		}
	default:
		v.Int = t.Min + r.Intn(t.Max-t.Min+1)
	}
	return v
}

// valueOf returns a record of a flat type.
func valueOf(r *rand.Rand, t T) V {
	var l []api.Field
	for _, f := range t.Fields {
		if f.Need != api.Optional || r.Intn(2) == 0 {
			l = append(l, at(f.Name, oneOf(r, f.Type)))
		}
	}
	return value.Record(l...)
}

// damaged returns a line that differs from another one in something.
func damaged(r *rand.Rand, line, separator string) string {
	odd := parts[r.Intn(len(parts))]
	if r.Intn(2) == 0 {
		cells := strings.Split(line, separator)
		cells[r.Intn(len(cells))] = odd
		return strings.Join(cells, separator)
	}
	i := r.Intn(len(line) + 1)
	j := min(len(line), i+r.Intn(2))
	return line[:i] + odd + line[j:]
}

func TestP11_7EncodeAndDecode(t *testing.T) {
	r := rand.New(rand.NewSource(2))
	for range 20000 {
		x, separator := someType(r), int(separators[r.Intn(len(separators))])
		v := valueOf(r, x)
		keptType, kept := schema.Clone(x), value.Clone(v)
		line, e := delimited.Encode(x, separator, v)
		back, at, f := delimited.Decode(x, separator, line)
		if e != api.OK || f != api.OK || at != 0 || !value.Equal(back, v) {
			t.Fatalf("Decode(%v, %c, %q) = %v, %d, %d, want %v", x, separator, line, back, at, f, v)
		}
		for i := range back.Fields {
			back.Fields[i].Value.Int++
		}
		if !schema.Equal(x, keptType) || !value.Equal(v, kept) {
			t.Fatal("an argument has changed")
		}
	}
}

var number = regexp.MustCompile(`^(-?)(0|[1-9][0-9]*)(?:\.([0-9]{1,12}))?$`)

// numberOf returns the unscaled number and the scale of a text in the words of the document.
func numberOf(s string) (n, scale int, ok bool) {
	m := number.FindStringSubmatch(s)
	if m == nil {
		return 0, 0, false
	}
	b, _ := new(big.Int).SetString(m[1]+m[2]+m[3], 10)
	if b.CmpAbs(big.NewInt(api.MaxNumber)) > 0 || b.Sign() == 0 && m[1] != "" {
		return 0, 0, false
	}
	return int(b.Int64()), len(m[3]), true
}

// moment returns the milliseconds of a text in a layout of package time.
func moment(layout, s string) (int, bool) {
	m, err := time.Parse(layout, s)
	return int(m.UnixMilli()), err == nil && m.Format(layout) == s && m.Year() >= 1
}

// read returns the value of a scalar kind with a text in the words of the document.
func read(kind int, s string) (V, bool) {
	switch kind {
	case api.Bool:
		return value.Bool(s == "true"), s == "true" || s == "false"
	case api.Int, api.Decimal:
		n, scale, ok := numberOf(s)
		return V{Kind: kind, Int: n, Scale: scale}, ok && (kind == api.Decimal || scale == 0)
	case api.Text:
		return value.Text(s), true
	case api.Bytes:
		b, err := hex.DecodeString(s)
		return value.Bytes(string(b)), err == nil && s == strings.ToLower(s)
	case api.Date:
		n, ok := moment("2006-01-02", s)
		return value.Date((n - (n%86400000+86400000)%86400000) / 86400000), ok
	}
	n, ok := moment("2006-01-02T15:04:05Z", s)
	if !ok {
		n, ok = moment("2006-01-02T15:04:05.000Z", s)
		ok = ok && n%1000 != 0
	}
	return value.Time(n), ok
}

// scalarFits reports whether a value of the right kind is one of a scalar type.
func scalarFits(t T, v V) bool {
	switch {
	case t.Kind == api.Bool:
		return true
	case len(t.Words) > 0:
		return slices.Contains(t.Words, v.Text)
	case t.Kind == api.Text || t.Kind == api.Bytes:
		return t.Min <= len(v.Text) && len(v.Text) <= t.Max && (t.Kind == api.Bytes || utf8.ValidString(v.Text))
	}
	return t.Min <= v.Int && v.Int <= t.Max && t.Scale == v.Scale
}

// decodeAs decodes a line in the words of the document.
func decodeAs(t T, separator int, line string) (V, int, api.Errno) {
	cells, where, e := delimited.Split(line, separator)
	if e != api.OK {
		return V{}, where, e
	}
	// A cell begins behind the line of the cells before it, and a separator.
	offset := func(i int) int {
		before, _ := delimited.Join(cells[:i], separator)
		return min(i, 1) + len(before)
	}
	if len(cells) < len(t.Fields) {
		return V{}, len(line), api.ErrShort
	}
	if len(cells) > len(t.Fields) {
		return V{}, offset(len(t.Fields)), api.ErrField
	}
	var l []api.Field
	for i, f := range t.Fields {
		switch {
		case cells[i] != C{}:
			v, ok := read(f.Type.Kind, cells[i].Text)
			if !ok {
				return V{}, offset(i), api.ErrSyntax
			}
			if !scalarFits(f.Type, v) {
				return V{}, offset(i), api.ErrType
			}
			l = append(l, at(f.Name, v))
		case f.Need == api.Defaulted:
			l = append(l, at(f.Name, f.Default[0]))
		case f.Need == api.Required:
			return V{}, offset(i), api.ErrAbsent
		}
	}
	return value.Record(l...), 0, api.OK
}

func TestP11_6AsDefined(t *testing.T) {
	r := rand.New(rand.NewSource(3))
	found := map[api.Errno]int{}
	for range 60000 {
		x, separator := someType(r), int(",;:"[r.Intn(3)])
		line, e := delimited.Encode(x, separator, valueOf(r, x))
		if e != api.OK {
			t.Fatalf("Encode of a value of %v: %d", x, e)
		}
		for range 1 + r.Intn(3) {
			line = damaged(r, line, string(rune(separator)))
		}
		want, wantAt, wantE := decodeAs(x, separator, line)
		v, at, e := delimited.Decode(x, separator, line)
		if !value.Equal(v, want) || at != wantAt || e != wantE {
			t.Fatalf("Decode(%v, %c, %q) = %v, %d, %d, want %v, %d, %d", x, separator, line, v, at, e, want, wantAt, wantE)
		}
		found[e]++
		if e != api.OK {
			continue
		}
		other, e := delimited.Encode(x, separator, v)
		again, _, f := delimited.Decode(x, separator, other)
		if !schema.Accepts(x, v) || e != api.OK || f != api.OK || !value.Equal(again, v) {
			t.Fatalf("Decode(%v, %c, %q) = %v, whose line is %q, %d", x, separator, line, v, other, e)
		}
	}
	for _, e := range []api.Errno{api.OK, api.ErrByte, api.ErrSyntax, api.ErrTruncated, api.ErrShort, api.ErrField, api.ErrAbsent, api.ErrType} {
		if found[e] < 200 {
			t.Errorf("%d lines with the error %d", found[e], e)
		}
	}
}

func TestP11_3AsDefined(t *testing.T) {
	r := rand.New(rand.NewSource(4))
	found := map[api.Errno]int{}
	for range 60000 {
		x := someScalar(r)
		s, e := delimited.CellOf(x, oneOf(r, x))
		if e != api.OK {
			t.Fatalf("CellOf a value of %v: %d", x, e)
		}
		if r.Intn(3) > 0 {
			s = damaged(r, s, "-")
		}
		want, ok := read(x.Kind, s)
		wantE := api.OK
		if !ok {
			want, wantE = V{}, api.ErrSyntax
		} else if !scalarFits(x, want) {
			want, wantE = V{}, api.ErrType
		}
		v, e := delimited.ValueOf(x, s)
		if !value.Equal(v, want) || e != wantE {
			t.Fatalf("ValueOf(%v, %q) = %v, %d, want %v, %d", x, s, v, e, want, wantE)
		}
		found[e]++
		if e != api.OK {
			continue
		}
		if again, e := delimited.CellOf(x, v); again != s || e != api.OK {
			t.Fatalf("CellOf(%v, %v) = %q, %d, want %q", x, v, again, e, s)
		}
	}
	for _, e := range []api.Errno{api.OK, api.ErrSyntax, api.ErrType} {
		if found[e] < 1000 {
			t.Errorf("%d texts with the error %d", found[e], e)
		}
	}
}

func TestP11_7NewMemory(t *testing.T) {
	cells, _, _ := delimited.Split(`a;"b""c";d`, ';')
	again, _, _ := delimited.Split(`a;"b""c";d`, ';')
	for i := range cells {
		cells[i] = C{}
	}
	if !slices.Equal(again, []C{bare("a"), quoted(`b"c`), bare("d")}) {
		t.Error("the cells of two calls share memory")
	}
}
