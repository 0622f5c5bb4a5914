package fixedwidth_test

import (
	"encoding/hex"
	"math/big"
	"math/rand"
	"regexp"
	"slices"
	"strings"
	"testing"
	"time"
	"unicode/utf8"

	"manifold/api"
	"manifold/fixedwidth"
	"manifold/schema"
	"manifold/value"
)

// someType returns a flat type without words that cannot be written, and widths for it.
func someType(r *rand.Rand) (T, []int) {
	names := []string{"a", "b", "c", "d", "e", "f"}
	r.Shuffle(len(names), func(i, j int) { names[i], names[j] = names[j], names[i] })
	var l []F
	for i := range 1 + r.Intn(5) {
		f := F{Name: names[i], Need: 1 + r.Intn(3), Type: someScalar(r)}
		if f.Need == api.Optional && canBeEmpty(f.Type) {
			f.Need = api.Required
		}
		if f.Need == api.Defaulted {
			f.Default = []V{oneOf(r, f.Type)}
		}
		l = append(l, f)
	}
	x := record(l...)
	widths, _ := fixedwidth.Widths(x)
	for i := range widths {
		widths[i] += r.Intn(3) * r.Intn(2)
	}
	return x, widths
}

func someScalar(r *rand.Rand) T {
	x := T{Kind: api.Bool + r.Intn(api.Time)}
	switch x.Kind {
	case api.Bool:
	case api.Text, api.Bytes:
		x.Min = r.Intn(3)
		x.Max = x.Min + r.Intn(4)
		if x.Kind == api.Text && r.Intn(3) == 0 {
			x = words([][]string{{""}, {"a", "b"}, {"", " x", "abc"}}[r.Intn(3)]...)
		}
	default:
		x.Min = r.Intn(200) - 100
		x.Max = x.Min + r.Intn(200)
	}
	if x.Kind == api.Decimal {
		x.Scale = r.Intn(3)
	}
	return x
}

func canBeEmpty(t T) bool {
	if len(t.Words) > 0 {
		return slices.Contains(t.Words, "")
	}
	return (t.Kind == api.Text || t.Kind == api.Bytes) && t.Min == 0
}

// oneOf returns a value of a valid scalar type that can be written.
func oneOf(r *rand.Rand, t T) V {
	v := V{Kind: t.Kind, Scale: t.Scale}
	n := t.Min + r.Intn(t.Max-t.Min+1)
	switch {
	case t.Kind == api.Bool:
		v.Int = r.Intn(2)
	case len(t.Words) > 0:
		v.Text = t.Words[r.Intn(len(t.Words))]
	case t.Kind == api.Text:
		for range n - 1 {
			v.Text += []string{"a", " ", "7", "-"}[r.Intn(4)]
		}
		if n > 0 {
			v.Text += []string{"b", "0", "\x7F"}[r.Intn(3)]
		}
	case t.Kind == api.Bytes:
		for range n {
			v.Text += string([]byte{byte(r.Intn(256))})
		}
	default:
		v.Int = n
	}
	return v
}

// valueOf returns a record of a flat type.
func valueOf(r *rand.Rand, t T) V {
	var l []api.Field
	for _, f := range t.Fields {
		if f.Need != api.Optional || r.Intn(2) == 0 {
			l = append(l, at(f.Name, oneOf(r, f.Type)))
		}
	}
	return value.Record(l...)
}

// offsets returns where the cells with some widths begin, and where the last one ends.
func offsets(widths []int) []int {
	l := []int{0}
	for i, w := range widths {
		l = append(l, l[i]+w)
	}
	return l
}

// damaged returns a line of the same length, mostly, that differs from another one in something.
func damaged(r *rand.Rand, line string, widths []int) string {
	k := r.Intn(len(widths))
	begin, end := offsets(widths)[k], offsets(widths)[k+1]
	cell := line[begin:end]
	i := r.Intn(len(cell))
	switch r.Intn(8) {
	case 0:
		cell = strings.Repeat(" ", len(cell))
	case 1:
		cell = strings.Repeat(" ", i) + cell[:len(cell)-i]
	case 2:
		cell = cell[i:] + strings.Repeat(" ", i)
	case 3:
		if r.Intn(4) == 0 {
			cell = cell[i:]
		}
	case 4:
		if r.Intn(4) == 0 {
			cell += " "
		}
	default:
		odd := []string{" ", "0", "7", "9", "-", ".", "a", "b", "F", "T", "A", "\xFF", "\n", "\x1F", "é", "x"}[r.Intn(16)]
		cell = (cell[:i] + odd + cell[i+1:])[:len(cell)]
	}
	return line[:begin] + cell + line[end:]
}

var numbers = regexp.MustCompile(`^(-?)(0|[1-9][0-9]*)(?:\.([0-9]{1,12}))?$`)

// dates and moments are the forms of the texts of dates and times.
var (
	dates   = regexp.MustCompile(`^[0-9]{4}-[0-9]{2}-[0-9]{2}$`)
	moments = regexp.MustCompile(`^[0-9]{4}-[0-9]{2}-[0-9]{2}T[0-9]{2}:[0-9]{2}:[0-9]{2}(\.[0-9]{3})?Z$`)
)

// millis returns the time with a text that has the form of one, if there is such a time.
func millis(layout, s string) (int, api.Errno) {
	m, err := time.Parse(layout, s)
	if err != nil || m.Year() < 1 {
		return 0, api.ErrDate
	}
	return int(m.UnixMilli()), api.OK
}

// read returns the value of a scalar type with a text that is not empty, in the words of the document.
func read(t T, s string) (V, api.Errno) {
	v, e := V{Kind: t.Kind}, api.OK
	switch t.Kind {
	case api.Bool:
		if s != "T" && s != "F" {
			e = api.ErrSyntax
		}
		v = value.Bool(s == "T")
	case api.Int, api.Decimal:
		m := numbers.FindStringSubmatch(s)
		if m == nil {
			return v, api.ErrSyntax
		}
		b, _ := new(big.Int).SetString(m[1]+m[2]+m[3], 10)
		if b.CmpAbs(big.NewInt(api.MaxNumber)) > 0 || b.Sign() == 0 && m[1] != "" {
			return v, api.ErrSyntax
		}
		v.Int, v.Scale = int(b.Int64()), len(m[3])
	case api.Text:
		v.Text = s
		if !utf8.ValidString(s) {
			e = api.ErrText
		} else if strings.ContainsFunc(s, func(p rune) bool { return p < 32 }) || s[len(s)-1] == ' ' {
			e = api.ErrByte
		}
	case api.Bytes:
		b, err := hex.DecodeString(s)
		if v.Text = string(b); err != nil || s != strings.ToLower(s) {
			e = api.ErrSyntax
		}
	case api.Date:
		if !dates.MatchString(s) {
			return v, api.ErrSyntax
		}
		v.Int, e = millis("2006-01-02", s)
		v.Int = (v.Int+719162*86400000)/86400000 - 719162
	case api.Time:
		if !moments.MatchString(s) || strings.Contains(s, ".000") {
			return v, api.ErrSyntax
		}
		v.Int, e = millis("2006-01-02T15:04:05Z", s)
	}
	if e == api.OK && !schema.Accepts(t, v) {
		e = api.ErrType
	}
	return v, e
}

// decodeAs decodes a line in the words of the document.
func decodeAs(t T, widths []int, line string) (V, int, api.Errno) {
	offset := offsets(widths)
	sum := offset[len(widths)]
	if len(line) < sum {
		return V{}, len(line), api.ErrShort
	}
	if len(line) > sum {
		return V{}, sum, api.ErrLong
	}
	var l []api.Field
	for i, f := range t.Fields {
		cell := line[offset[i]:offset[i+1]]
		v, e := V{}, api.OK
		if strings.Count(cell, " ") == len(cell) {
			switch {
			case canBeEmpty(f.Type):
				v = V{Kind: f.Type.Kind}
			case f.Need == api.Defaulted:
				v = f.Default[0]
			case f.Need == api.Required:
				e = api.ErrAbsent
			}
		} else {
			isNumber := f.Type.Kind == api.Int || f.Type.Kind == api.Decimal
			for isNumber && cell[0] == ' ' {
				cell = cell[1:]
			}
			for !isNumber && cell[len(cell)-1] == ' ' {
				cell = cell[:len(cell)-1]
			}
			v, e = read(f.Type, cell)
		}
		if e != api.OK {
			return V{}, offset[i], e
		}
		l = append(l, at(f.Name, v))
	}
	return value.Record(l...), 0, api.OK
}

// hasBlank reports whether a Defaulted field of a type has a blank cell in a line.
func hasBlank(t T, widths []int, line string) bool {
	cells, _ := fixedwidth.Cells(line, widths)
	for i, f := range t.Fields {
		if f.Need == api.Defaulted && strings.Trim(cells[i], " ") == "" {
			return true
		}
	}
	return false
}

func TestP12_5AsDefined(t *testing.T) {
	r := rand.New(rand.NewSource(1))
	found := map[api.Errno]int{}
	for range 60000 {
		x, widths := someType(r)
		line, e := fixedwidth.Encode(x, widths, valueOf(r, x))
		if e != api.OK {
			t.Fatalf("Encode of a value of %v: %d", x, e)
		}
		line = damaged(r, line, widths)
		if r.Intn(2) == 0 && len(line) == offsets(widths)[len(widths)] {
			line = damaged(r, line, widths)
		}
		want, wantAt, wantE := decodeAs(x, widths, line)
		v, at, e := fixedwidth.Decode(x, widths, line)
		if !value.Equal(v, want) || at != wantAt || e != wantE {
			t.Fatalf("Decode(%v, %v, %q) = %v, %d, %d, want %v, %d, %d", x, widths, line, v, at, e, want, wantAt, wantE)
		}
		found[e]++
		if e != api.OK {
			continue
		}
		again, e := fixedwidth.Encode(x, widths, v)
		if !schema.Accepts(x, v) || e != api.OK || again != line && !hasBlank(x, widths, line) {
			t.Fatalf("Decode(%v, %v, %q) = %v, whose line is %q, %d", x, widths, line, v, again, e)
		}
	}
	for _, e := range []api.Errno{api.OK, api.ErrShort, api.ErrLong, api.ErrAbsent, api.ErrSyntax, api.ErrType, api.ErrText, api.ErrByte, api.ErrDate} {
		if found[e] < 100 {
			t.Errorf("%d lines with the error %d", found[e], e)
		}
	}
}

func TestP12_6Inverse(t *testing.T) {
	r := rand.New(rand.NewSource(2))
	for range 20000 {
		x, widths := someType(r)
		v := valueOf(r, x)
		keptType, keptWidths, kept := schema.Clone(x), slices.Clone(widths), value.Clone(v)
		line, e := fixedwidth.Encode(x, widths, v)
		back, at, f := fixedwidth.Decode(x, widths, line)
		if e != api.OK || f != api.OK || at != 0 || len(line) != offsets(widths)[len(widths)] || !value.Equal(back, v) {
			t.Fatalf("Decode(%v, %v, %q) = %v, %d, %d, want %v", x, widths, line, back, at, f, v)
		}
		if !schema.Equal(x, keptType) || !slices.Equal(widths, keptWidths) || !value.Equal(v, kept) {
			t.Fatal("an argument has changed")
		}
	}
}

func TestP12_6OtherCell(t *testing.T) {
	r := rand.New(rand.NewSource(3))
	for range 20000 {
		x, widths := someType(r)
		v, w := valueOf(r, x), valueOf(r, x)
		line, _ := fixedwidth.Encode(x, widths, v)
		other, _ := fixedwidth.Encode(x, widths, w)
		k := r.Intn(len(widths))
		begin, end := offsets(widths)[k], offsets(widths)[k+1]
		name := x.Fields[k].Name
		want, _ := value.Without(v, name)
		if value.IsNull(want) {
			want = v
		}
		if there, has := value.Field(w, name); has {
			want, _ = value.With(want, name, there)
		}
		mixed := line[:begin] + other[begin:end] + line[end:]
		if got, at, e := fixedwidth.Decode(x, widths, mixed); !value.Equal(got, want) || at != 0 || e != api.OK {
			t.Fatalf("Decode(%v, %v, %q) = %v, %d, %d, want %v", x, widths, mixed, got, at, e, want)
		}
	}
}

func TestP12_1WidthIsLeast(t *testing.T) {
	r := rand.New(rand.NewSource(4))
	for range 3000 {
		x := someScalar(r)
		if x.Kind == api.Date || x.Kind == api.Time || x.Kind == api.Text || x.Kind == api.Bytes {
			continue
		}
		longest := 0
		for n := x.Min; n <= x.Max; n++ {
			s, e := fixedwidth.Encode(alone(x), []int{30}, only(V{Kind: x.Kind, Int: n, Scale: x.Scale}))
			if e != api.OK {
				t.Fatalf("Encode(%v, %d): %d", x, n, e)
			}
			longest = max(longest, len(strings.Trim(s, " ")))
		}
		if n, e := fixedwidth.Width(x); n != longest || e != api.OK {
			t.Fatalf("Width(%v) = %d, %d, want %d", x, n, e, longest)
		}
	}
}

func TestP12_3AsDefined(t *testing.T) {
	r := rand.New(rand.NewSource(5))
	for range 5000 {
		var widths []int
		for range r.Intn(8) {
			widths = append(widths, 1+r.Intn(5))
		}
		var want []string
		for _, w := range widths {
			want = append(want, strings.Repeat(string([]byte{byte(r.Intn(256))}), w))
		}
		line := strings.Join(want, "")
		if l, e := fixedwidth.Cells(line, widths); !slices.Equal(l, want) || e != api.OK {
			t.Fatalf("Cells(%q, %v) = %q, %d", line, widths, l, e)
		}
		if l, e := fixedwidth.Cells(line+" ", widths); len(l) != 0 || e != api.ErrLong {
			t.Fatalf("Cells(%q and a space, %v) = %q, %d", line, widths, l, e)
		}
		if line == "" {
			continue
		}
		if l, e := fixedwidth.Cells(line[1:], widths); len(l) != 0 || e != api.ErrShort {
			t.Fatalf("Cells(%q, %v) = %q, %d", line[1:], widths, l, e)
		}
	}
}
