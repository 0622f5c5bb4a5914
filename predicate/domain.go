package predicate

import (
	"iter"
	"slices"
	"sort"
	"strings"
	"unicode/utf8"

	"manifold/api"
	"manifold/decimal"
)

// domain numbers the values of a scalar type in their order. Those that have texts have the indices of these.
type domain struct {
	t         api.Type
	texts     []string
	low, high int
}

// isSampled reports whether a type has so many texts that conditions distinguish a few of them only.
func isSampled(t api.Type) bool {
	return t.Kind == api.Bytes || t.Kind == api.Text && len(t.Words) == 0
}

// newDomain returns the domain of a type, with its samples if it is sampled.
func newDomain(t api.Type, samples []string) domain {
	switch {
	case isSampled(t):
		return domain{t: t, texts: samples, high: len(samples) - 1}
	case t.Kind == api.Text:
		return domain{t: t, texts: t.Words, high: len(t.Words) - 1}
	case t.Kind == api.Bool:
		return domain{t: t, high: 1}
	}
	return domain{t: t, low: t.Min, high: t.Max}
}

// value returns the value with a number.
func (d domain) value(n int) api.Value {
	if d.hasTexts() {
		return api.Value{Kind: d.t.Kind, Text: d.texts[n]}
	}
	return api.Value{Kind: d.t.Kind, Int: n, Scale: d.t.Scale}
}

func (d domain) hasTexts() bool { return d.t.Kind == api.Text || d.t.Kind == api.Bytes }

// compare compares the value with a number with a constant.
func (d domain) compare(n int, c api.Value) int {
	v := d.value(n)
	if d.hasTexts() {
		return strings.Compare(v.Text, c.Text)
	}
	order, _ := decimal.Compare(api.Number{Int: v.Int, Scale: v.Scale}, api.Number{Int: c.Int, Scale: c.Scale})
	return order
}

// relations says, for each comparison, for which values it is true.
var relations = [...]struct{ less, equal, greater bool }{
	api.OpEqual:   {equal: true},
	api.OpUnequal: {less: true, greater: true},
	api.OpLess:    {less: true},
	api.OpAtMost:  {less: true, equal: true},
	api.OpGreater: {greater: true},
	api.OpAtLeast: {equal: true, greater: true},
}

// where returns the numbers of the values for which a comparison with a constant is true.
func (d domain) where(op int, c api.Value) set {
	equal := d.first(func(n int) bool { return d.compare(n, c) >= 0 })
	greater := d.first(func(n int) bool { return d.compare(n, c) > 0 })
	var s set
	r := relations[op]
	if r.less {
		s = append(s, between(d.low, equal-1)...)
	}
	if r.equal {
		s = append(s, between(equal, greater-1)...)
	}
	if r.greater {
		s = append(s, between(greater, d.high)...)
	}
	return s
}

// first returns the least number for which something is true that is true for all greater ones.
func (d domain) first(is func(n int) bool) int {
	return d.low + sort.Search(d.high-d.low+1, func(i int) bool { return is(d.low + i) })
}

// whereAny returns the numbers of the values for which a comparison with one of some constants is true.
func (d domain) whereAny(op int, constants []api.Value) set {
	var l []set
	for _, c := range constants {
		l = append(l, d.where(op, c))
	}
	return combineAll(l, inAny)
}

// samples returns the texts of a type that are among some constants, and one that stands for all others.
func samples(t api.Type, constants []string) []string {
	l := slices.Clone(constants)
	slices.Sort(l)
	l = slices.DeleteFunc(slices.Compact(l), func(s string) bool { return len(s) < t.Min || len(s) > t.Max })
	for s := range textsOf(t) {
		if at, taken := slices.BinarySearch(l, s); !taken {
			return slices.Insert(l, at, s)
		}
	}
	return l
}

// textsOf yields texts of a sampled type: all those of at most two bytes, and of the longer ones those that differ in the last two bytes only, because even these are more than the constants of all conditions.
func textsOf(t api.Type) iter.Seq[string] {
	const differing = 2
	return func(yield func(string) bool) {
		for size := t.Min; size <= t.Max; size++ {
			tail := min(size, differing)
			front := strings.Repeat(string(rune(filler(t.Kind))), size-tail)
			for n := range 1 << (8 * tail) {
				end := ending(filler(t.Kind), n, tail)
				if (t.Kind == api.Bytes || utf8.ValidString(end)) && !yield(front+end) {
					return
				}
			}
		}
	}
}

// filler returns the byte of which the least value of a kind consists.
func filler(kind int) byte {
	if kind == api.Text {
		return 'a'
	}
	return 0
}

// ending returns the text of a number of bytes that differ from a byte by the bits of a number.
func ending(from byte, bits, size int) string {
	var s strings.Builder
	for i := range size {
		s.WriteByte(from ^ byte(bits>>(8*i)))
	}
	return s.String()
}
