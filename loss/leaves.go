package loss

import (
	"slices"
	"strings"

	"manifold/api"
	"manifold/mapping"
	"manifold/path"
	"manifold/schema"
)

// set is a set of leaves of a type, by the texts of their paths.
type set map[string]struct{}

func (s set) add(leaf []path.Part) { s[text(leaf)] = struct{}{} }

func (s set) has(leaf []path.Part) bool {
	_, has := s[text(leaf)]
	return has
}

// choose returns the texts of the leaves of a type, in order, that are in a set, or of the other ones.
func choose(t api.Type, s set, inside bool) []string {
	var l []string
	for _, leaf := range schema.Leaves(t) {
		if s.has(leaf) == inside {
			l = append(l, text(leaf))
		}
	}
	return l
}

// text returns the text of the path of a leaf, for which path.Text has none if it is too long or does not begin with a field.
func text(leaf []path.Part) string { return strings.TrimPrefix(textBehind(leaf), ".") }

// textBehind returns the text that parts have behind other parts.
func textBehind(l []path.Part) string {
	const name = "a"
	var b strings.Builder
	for _, part := range l {
		s, _ := path.Text([]path.Part{{Kind: path.Field, Name: name}, part})
		b.WriteString(strings.TrimPrefix(s, name))
	}
	return b.String()
}

// dependedOn returns the leaves of a type on which a mapping depends, if messages of this type are at a path of fields.
func dependedOn(m api.Mapping, t api.Type, from []path.Part) set {
	read := behind(from, mapping.Sources(m))
	s := set{}
	for _, leaf := range schema.Leaves(t) {
		if slices.ContainsFunc(read, func(p []path.Part) bool { return touch(leaf, p) }) {
			s.add(leaf)
		}
	}
	return s
}

// behind returns what remains of paths behind a path of fields. Nothing remains of a path to what is there, or to something that contains it.
func behind(from []path.Part, paths []string) [][]path.Part {
	var l [][]path.Part
	for _, s := range paths {
		p, _ := path.Parse(s)
		if touch(from, p) {
			l = append(l, p[min(len(from), len(p)):])
		}
	}
	return l
}

// touch reports whether two paths touch, of which the first one has no Index.
func touch(a, b []path.Part) bool {
	n := min(len(a), len(b))
	return path.Covers(a[:n], b[:n])
}
