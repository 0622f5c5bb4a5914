package parser_test

import (
	"math/rand"
	"slices"
	"strings"
	"testing"

	"manifold/api"
	"manifold/formula"
	"manifold/lexer"
	"manifold/parser"
)

// grammarText is the grammar of the document, in its notation. A plus stands before what has to be joined; end, minus (a hyphen that belongs to a number) and hyphen (one that does not) are tokens. Times are left out, because no string is a date and a time.
const grammarText = `
program = "program" NUMBER ";" { schema | endpoint | service | route } END
schema = "schema" WORD NUMBER type ";"
endpoint = ( "source" | "sink" | "queue" ) WORD ":" WORD NUMBER "as" format ";"
format = "tagged" | "literal" | "delimited" STRING | "fixed" "(" NUMBER { "," NUMBER } ")"
service = "service" WORD ":" WORD "->" WORD [ "undo" ] ";"
route = "route" WORD "from" WORD "{" steps "}"
steps = { [ WORD ":" ] step }
step = "filter" expression "reason" STRING ";" | "map" result ";" | "split" path result ";" | "aggregate" "by" expression [ "when" expression ] [ "count" NUMBER ] [ "within" NUMBER ] "limit" NUMBER result ";" | "order" "by" expression "number" expression [ "within" NUMBER ] "limit" NUMBER ";" | "unique" "by" expression "keep" NUMBER ";" | "throttle" NUMBER "per" NUMBER "limit" NUMBER ";" | "delay" NUMBER "limit" NUMBER ";" | request [ "within" NUMBER ] "limit" NUMBER result ";" | "saga" "{" { request } "}" [ "within" NUMBER ] "limit" NUMBER result ";" | "choose" "{" { "when" expression "{" steps "}" } [ "otherwise" "{" steps "}" ] "}" | "multicast" "{" { "branch" "{" steps "}" } "}" | "to" WORD ";" | "reject" STRING ";"
request = "call" WORD rules
result = "to" WORD rules
rules = "{" { target "=" expression ";" } "}"
target = WORD parts
path = PATHWORD parts
parts = { +"." +WORD | +"[" ( +NUMBER | +"*" ) +"]" | +"?" +WORD }
type = "bool" | "int" "(" bound ".." bound ")" | "decimal" "(" NUMBER "," bound ".." bound ")" | "text" "(" STRING { "|" STRING } ")" | ( "text" | "bytes" ) "(" NUMBER ".." NUMBER ")" | "date" "(" STRING ".." STRING ")" | "list" "(" NUMBER ".." NUMBER "," type ")" | ( "record" | "variant" ) "(" [ field { "," field } ] ")"
field = NUMBER WORD ":" type [ "=" value ] | NUMBER WORD "?" ":" type
value = scalar | "[" [ value { "," value } ] "]" | "{" [ WORD ":" value { "," WORD ":" value } ] "}" | WORD "(" value ")"
bound = [ "-" ] NUMBER
scalar = "true" | "false" | [ MINUS ] NUMBER | STRING | BYTES | "date" STRING
expression = conjunction { "or" conjunction }
conjunction = negation { "and" negation }
negation = "not" negation | comparison
comparison = choice [ ( "=" | "!=" | "<" | "<=" | ">" | ">=" ) choice | "in" "(" expression { "," expression } ")" ]
choice = sum { "else" sum }
sum = product { ( "+" | "-" | "&" ) product }
product = unary { "*" unary }
unary = HYPHEN unary | primary
primary = scalar | path | "(" expression ")" | call
call = ( "length" | "lower" | "upper" | "text" | "number" ) "(" expression ")" | "slice" "(" expression "," expression "," expression ")" | "if" "(" expression "," expression "," expression ")" | "divide" "(" expression "," expression "," NUMBER ")" | "has" "(" path ")" | "sum" "(" path [ "," NUMBER ] ")"
`

// rule is a part of the grammar: alternatives, a sequence, something that is repeated or optional, a name, or a token.
type rule struct {
	kind   byte // one of | , { [ n and t
	text   string
	parts  []rule
	joined bool
}

// notation reads rules from words.
type notation struct{ words []string }

func (n *notation) next() string {
	if len(n.words) == 0 {
		return ""
	}
	return n.words[0]
}

func (n *notation) take() string {
	s := n.words[0]
	n.words = n.words[1:]
	return s
}

func (n *notation) alternatives() rule {
	x := rule{kind: '|', parts: []rule{n.sequence()}}
	for n.next() == "|" {
		n.take()
		x.parts = append(x.parts, n.sequence())
	}
	return x
}

func (n *notation) sequence() rule {
	x := rule{kind: ','}
	for !slices.Contains([]string{"", "|", ")", "]", "}"}, n.next()) {
		x.parts = append(x.parts, n.part())
	}
	return x
}

func (n *notation) part() rule {
	s := n.take()
	switch s {
	case "(", "[", "{":
		x := n.alternatives()
		n.take()
		if s == "(" {
			return x
		}
		return rule{kind: s[0], parts: []rule{x}}
	}
	text, joined := strings.CutPrefix(s, "+")
	if text[0] == '"' || text[0] >= 'A' && text[0] <= 'Z' {
		return rule{kind: 't', text: text, joined: joined}
	}
	return rule{kind: 'n', text: text}
}

// grammar returns the rules by their names.
func grammar() map[string]rule {
	m := map[string]rule{}
	for line := range strings.SplitSeq(strings.TrimSpace(grammarText), "\n") {
		name, behind, _ := strings.Cut(line, " = ")
		n := notation{strings.Fields(behind)}
		m[name] = n.alternatives()
	}
	return m
}

// recognition follows the grammar in all possible ways, and keeps how far one of them has come.
type recognition struct {
	rules    map[string]rule
	tokens   []lexer.Token
	furthest int
}

// match reports whether something behind what a rule matches is matched by further.
func (r *recognition) match(x rule, i int, further func(i int) bool) bool {
	switch x.kind {
	case '|':
		return slices.ContainsFunc(x.parts, func(y rule) bool { return r.match(y, i, further) })
	case ',':
		if len(x.parts) == 0 {
			return further(i)
		}
		rest := rule{kind: ',', parts: x.parts[1:]}
		return r.match(x.parts[0], i, func(j int) bool { return r.match(rest, j, further) })
	case '[':
		return r.match(x.parts[0], i, further) || further(i)
	case '{':
		return r.match(x.parts[0], i, func(j int) bool { return r.match(x, j, further) }) || further(i)
	case 'n':
		return r.match(r.rules[x.text], i, further)
	}
	r.furthest = max(r.furthest, i)
	return r.isToken(x, i) && further(i+1)
}

// isToken reports whether the token with an index is one that a rule stands for.
func (r *recognition) isToken(x rule, i int) bool {
	t := r.tokens[i]
	if x.joined && !t.Joined {
		return false
	}
	isHyphen := t.Kind == lexer.Symbol && t.Text == "-"
	belongs := isHyphen && r.tokens[i+1].Kind == lexer.Number && r.tokens[i+1].Joined
	switch x.text {
	case "END":
		return t.Kind == lexer.End
	case "WORD":
		return t.Kind == lexer.Word
	case "PATHWORD":
		return t.Kind == lexer.Word && !slices.Contains(formula.Reserved(), t.Text)
	case "NUMBER":
		return t.Kind == lexer.Number
	case "STRING":
		return t.Kind == lexer.String
	case "BYTES":
		return t.Kind == lexer.Bytes
	case "MINUS":
		return belongs
	case "HYPHEN":
		return isHyphen && !belongs
	}
	return (t.Kind == lexer.Word || t.Kind == lexer.Symbol) && t.Text == strings.Trim(x.text, `"`)
}

// height returns how deeply names stand within each other in the least text of a rule.
func height(rules map[string]rule, x rule, levels int) int {
	least := 1000
	switch x.kind {
	case '|':
		for _, y := range x.parts {
			least = min(least, height(rules, y, levels))
		}
		return least
	case ',':
		most := 0
		for _, y := range x.parts {
			most = max(most, height(rules, y, levels))
		}
		return most
	case 'n':
		if levels == 0 {
			return least
		}
		return 1 + height(rules, rules[x.text], levels-1)
	}
	return 0
}

// making makes random texts of a grammar.
type making struct {
	r     *rand.Rand
	rules map[string]rule
	words []string // each one with a space before it unless it is joined
}

// someWords do not contain time, whose strings would be no dates.
var someWords = []string{"a", "b1", "to", "when", "count", "choose", "otherwise", "call", "filter", "limit", "x", "undo", "schema"}

func (m *making) make(x rule, depth int) {
	switch x.kind {
	case '|':
		l := slices.Clone(x.parts)
		m.r.Shuffle(len(l), func(i, j int) { l[i], l[j] = l[j], l[i] })
		if depth <= 0 {
			slices.SortStableFunc(l, func(a, b rule) int { return height(m.rules, a, 12) - height(m.rules, b, 12) })
		}
		m.make(l[0], depth)
	case ',':
		for _, y := range x.parts {
			m.make(y, depth)
		}
	case '[', '{':
		for n := 0; depth > 0 && m.r.Intn(2+n) == 0 && (n == 0 || x.kind == '{'); n++ {
			m.make(x.parts[0], depth-1)
		}
	case 'n':
		m.make(m.rules[x.text], depth-1)
	default:
		m.token(x)
	}
}

func (m *making) token(x rule) {
	text := strings.Trim(x.text, `"`)
	switch x.text {
	case "END":
		return
	case "WORD":
		text = someWords[m.r.Intn(len(someWords))]
	case "PATHWORD":
		text = someWords[m.r.Intn(4)]
	case "NUMBER":
		text = []string{"0", "1", "7"}[m.r.Intn(3)]
	case "STRING":
		text = `"1970-01-01"`
	case "BYTES":
		text = `x"00"`
	case "HYPHEN":
		text = "-"
	case "MINUS":
		m.words = append(m.words, " -")
		return
	}
	isBehindMinus := x.text == "NUMBER" && len(m.words) > 0 && m.words[len(m.words)-1] == " -"
	if !x.joined && !isBehindMinus {
		text = " " + text
	}
	m.words = append(m.words, text)
}

// damage changes the words of a text at random.
func (m *making) damage() {
	pool := strings.Fields(`a to ; : { } ( ) [ ] , . ? = .. - -> | * 1 7 "1970-01-01" x"00" when branch limit not and in call true date record = > text foo steps`)
	for range 1 + m.r.Intn(2) {
		i := m.r.Intn(len(m.words))
		word := []string{" ", " ", " ", ""}[m.r.Intn(4)] + pool[m.r.Intn(len(pool))]
		switch m.r.Intn(6) {
		case 0:
			m.words = slices.Delete(m.words, i, i+1)
		case 1:
			m.words = slices.Insert(m.words, i, word)
		case 2:
			m.words[i] = word
		case 3:
			j := m.r.Intn(len(m.words))
			m.words[i], m.words[j] = m.words[j], m.words[i]
		case 4:
			m.words = m.words[:i+1]
		case 5:
			m.words[i] = " " + strings.TrimSpace(m.words[i])
		}
		if len(m.words) == 0 {
			return
		}
	}
}

// compare compares what Parse returns for a text with what the grammar says, and returns what it was.
func compare(t *testing.T, rules map[string]rule, s string) string {
	t.Helper()
	tokens, _, _, e := lexer.Scan(s)
	if e != api.OK {
		return "lexer"
	}
	r := recognition{rules: rules, tokens: tokens}
	is := r.match(rules["program"], 0, func(i int) bool { return i == len(tokens) })
	_, line, column, e := parser.Parse(s)
	place := tokens[r.furthest]
	isBefore := line < place.Line || line == place.Line && column <= place.Column
	switch {
	case is && e == api.OK:
		return "program"
	case is && e != api.ErrSyntax, !is && e != api.ErrSyntax && e != api.OK && isBefore:
		return "other"
	case !is && e == api.ErrSyntax && line == place.Line && column == place.Column:
		return "syntax"
	}
	t.Fatalf("Parse(%s): %d at %d, %d; the grammar: %t, up to %d, %d", s, e, line, column, is, place.Line, place.Column)
	return ""
}

// TestP21_1Grammar compares Parse with the grammar for random programs, damaged ones, and ones that are cut off.
func TestP21_1Grammar(t *testing.T) {
	r := rand.New(rand.NewSource(1))
	rules := grammar()
	found := map[string]int{}
	for range 12000 {
		m := making{r: r, rules: rules}
		m.make(rules["program"], 3+r.Intn(9))
		if len(m.words) > 150 {
			continue
		}
		if r.Intn(5) > 0 {
			m.damage()
		}
		found[compare(t, rules, strings.Join(m.words, ""))]++
	}
	for what, least := range map[string]int{"program": 1000, "syntax": 4000, "other": 200} {
		if found[what] < least {
			t.Errorf("%s: %d times", what, found[what])
		}
	}
}

// TestP21_1EachToken puts each of many tokens at each place of a program.
func TestP21_1EachToken(t *testing.T) {
	rules := grammar()
	dates := strings.NewReplacer(`"a"`, `"1970-01-01"`, `"b"`, `"1970-01-02"`, `"free"`, `"1970-01-01"`, `"small"`, `"1970-01-01"`)
	text := dates.Replace(everything)
	tokens, _, _, e := lexer.Scan(text)
	if e != api.OK {
		t.Fatal(e)
	}
	pool := strings.Fields(`a to when ; : { } ( ) [ ] , ? = .. - -> | * 1 "1970-01-01" x"00" not true number date`)
	lines := strings.SplitAfter(text, "\n")
	for _, x := range tokens {
		at := x.Column - 1
		for _, l := range lines[:x.Line-1] {
			at += len(l)
		}
		for i, word := range pool {
			blank := " "[(x.Column+i)%2:] // the token is joined half of the time
			compare(t, rules, text[:at]+blank+word+" "+text[at:])
		}
	}
}
