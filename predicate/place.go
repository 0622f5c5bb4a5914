package predicate

import (
	"slices"

	"manifold/api"
	"manifold/path"
)

// The aspects of what is at a path, each of which is described by numbers.
const (
	presence    = iota // of an Optional field: 1 if it is there, 0 if it is not
	alternative        // the index of the case of a variant
	content            // the number of a value in its domain
	numAspects
)

// requirement is that an aspect of what is at a path has one of certain numbers.
type requirement struct {
	aspect  int
	path    string
	numbers set
}

// choice is what is required if a choice is taken, and if it is not.
type choice struct{ taken, left requirement }

// newChoice returns the choice of one of the numbers from 0 to the greatest one.
func newChoice(aspect int, at string, one, greatest int) choice {
	numbers := only(one)
	others := combine(between(0, greatest), numbers, inFirstOnly)
	return choice{requirement{aspect, at, numbers}, requirement{aspect, at, others}}
}

// place is where a plain path leads: a type, and the choices on the way.
type place struct {
	path    string
	t       api.Type
	choices []choice
}

// find returns where a path into a type leads, which exists in it, and reports whether it is plain.
func find(env api.Type, text string) (p place, plain bool) {
	l, _ := path.Parse(text)
	p = place{path: text, t: env}
	for i, part := range l {
		if part.Kind != path.Field && part.Kind != path.Case {
			return place{}, false
		}
		at := slices.IndexFunc(p.t.Fields, func(f api.TypeField) bool { return f.Name == part.Name })
		f := p.t.Fields[at]
		switch {
		case f.Need == api.Optional:
			field, _ := path.Text(l[:i+1])
			p.choices = append(p.choices, newChoice(presence, field, 1, 1))
		case part.Kind == path.Case && len(p.t.Fields) > 1:
			variant, _ := path.Text(l[:i])
			p.choices = append(p.choices, newChoice(alternative, variant, at, len(p.t.Fields)-1))
		}
		p.t = f.Type
	}
	return p, true
}

// reached returns the case in which a place is there.
func (p place) reached() scenario {
	var s scenario
	for _, c := range p.choices {
		s.needs = append(s.needs, c.taken)
	}
	return s
}

// missed returns the cases in which a place is not there.
func (p place) missed() []scenario {
	var l []scenario
	before := p.reached().needs
	for i, c := range p.choices {
		l = append(l, scenario{needs: slices.Concat(before[:i], []requirement{c.left})})
	}
	return l
}

// having returns the case in which the value at a place has one of certain numbers.
func (p place) having(numbers set) scenario {
	s := p.reached()
	s.needs = append(s.needs, requirement{content, p.path, numbers})
	return s
}
