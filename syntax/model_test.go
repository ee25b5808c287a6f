package syntax_test

import (
	"slices"
	"strconv"
	"strings"

	"farandole/api"
	"farandole/lex"
)

// grammar is that of the chapter. As an else block stands there exactly if there is a within, there are two kinds of choices; ticks is the number behind within.
const grammar = `
	source   = { protocol }
	protocol = "protocol" word "(" words ")" "{" { message } { item } "}"
	message  = "message" path "(" [ field { "," field } ] ")" [ "where" atom { "and" atom } ] ";"
	field    = word ":" ( "int" signed ".." signed | "text" number ".." number )
	atom     = term ( "<" | "<=" | "==" | ">=" | ">" ) term
	term     = signed | ( path | "len" "(" path ")" ) [ ( "+" | "-" ) number ]
	signed   = [ "-" ] number
	item     = word "->" words ":" path ";"
	         | "choice" "at" word block { "or" block }
	         | "choice" "at" word "within" ticks block { "or" block } "else" block
	         | "loop" path block
	         | "again" path ";"
	         | "par" block "and" block { "and" block }
	         | "call" word "(" words ")" "as" word ";"
	block    = "{" { item } "}"
	words    = word { "," word }
	path     = word { "." word }`

// symbol is a part of a rule: a mark or a keyword in quotation marks, the name of a rule or of a sort of tokens, or something in brackets.
type symbol struct {
	text         string
	alternatives [][]symbol
}

// rules are the alternatives of each rule of a grammar.
type rules map[string][][]symbol

// rulesOf reads a grammar.
func rulesOf(text string) rules {
	r := rules{}
	name := ""
	var words []string
	for _, word := range append(strings.Fields(text), "=") {
		if word != "=" {
			words = append(words, word)
			continue
		}
		// The last word is the name of the next rule, or a part of the last one.
		last := len(words) - 1
		if name != "" {
			rule := words[:last]
			r[name] = alternativesOf(&rule)
		}
		name, words = words[last], nil
	}
	return r
}

// grammarRules returns the rules of the grammar.
func grammarRules() rules { return rulesOf(grammar + " end") }

// alternativesOf reads alternatives up to a closing bracket, or the end.
func alternativesOf(words *[]string) [][]symbol {
	l := [][]symbol{nil}
	for len(*words) > 0 {
		word := (*words)[0]
		*words = (*words)[1:]
		last := len(l) - 1
		switch word {
		case "}", "]", ")":
			return l
		case "|":
			l = append(l, nil)
		case "{", "[", "(":
			l[last] = append(l[last], symbol{word, alternativesOf(words)})
		default:
			l[last] = append(l[last], symbol{text: word})
		}
	}
	return l
}

// stack has the symbols that are still to be read.
type stack struct {
	top   symbol
	below *stack
}

func (s *stack) push(l []symbol) *stack {
	for _, x := range slices.Backward(l) {
		s = &stack{x, s}
	}
	return s
}

// expand returns the stacks that have a token on top, or nothing at all.
func (r rules) expand(s *stack) []*stack {
	if s == nil {
		return []*stack{nil}
	}
	alternatives, below := s.top.alternatives, s.below
	var l []*stack
	switch s.top.text {
	case "{":
		l, below = r.expand(s.below), s
	case "[":
		l = r.expand(s.below)
	case "(":
	default:
		if alternatives = r[s.top.text]; alternatives == nil {
			return []*stack{s}
		}
	}
	for _, a := range alternatives {
		l = append(l, r.expand(below.push(a))...)
	}
	return l
}

// permits reports whether a token is one of a sort.
func permits(sort string, t lex.Token) bool {
	switch sort {
	case "word":
		return t.Kind == lex.Name && lex.IsWord(t.Text)
	case "number", "ticks":
		return t.Kind == lex.Number
	}
	return t.Kind != lex.Text && `"`+t.Text+`"` == sort
}

// check returns the index of the first token that is wrong, with its error. This is the number of tokens if they end too early.
func (r rules) check(tokens []lex.Token) (int, api.Errno) {
	now := []*stack{(*stack)(nil).push([]symbol{{text: "source"}})}
	for i, t := range tokens {
		var next []*stack
		for _, s := range now {
			for _, s := range r.expand(s) {
				if s == nil || !permits(s.top.text, t) {
					continue
				}
				if s.top.text == "ticks" && (t.Value < 1 || t.Value > 1000) {
					return i, api.ErrRange
				}
				next = append(next, s.below)
			}
		}
		if now = next; len(now) == 0 {
			return i, api.ErrSyntax
		}
	}
	for _, s := range now {
		if slices.Contains(r.expand(s), nil) {
			return 0, api.OK
		}
	}
	return len(tokens), api.ErrSyntax
}

// texts returns the texts of tokens.
func texts(tokens []lex.Token) []string {
	var l []string
	for _, t := range tokens {
		if t.Kind == lex.Number {
			t.Text = strconv.Itoa(t.Value)
		}
		l = append(l, t.Text)
	}
	return l
}

// isSign reports whether a token is a - that is not behind a path. The grammar permits none as the first token.
func isSign(l []string, i int) bool {
	return l[i] == "-" && !lex.IsWord(l[i-1]) && l[i-1] != ")"
}

// withoutZeros returns tokens without signs of zeros, and without zeros that are added.
func withoutZeros(l []string) []string {
	var out []string
	for i := 0; i < len(l); i++ {
		if (l[i] == "+" || l[i] == "-") && l[i+1] == "0" {
			if !isSign(l, i) {
				i++
			}
			continue
		}
		out = append(out, l[i])
	}
	return out
}

// isApart reports whether a space stands ahead of a token that is not the first one of its line.
func isApart(l []string, i int) bool {
	ahead, behind := []string{",", ":", ";", ")", "(", ".", ".."}, []string{"(", ".", ".."}
	return !slices.Contains(ahead, l[i]) && !slices.Contains(behind, l[i-1]) && !isSign(l, i-1)
}

// formatted returns the canonical source with tokens that the grammar permits.
func formatted(l []string) string {
	l = withoutZeros(l)
	var b strings.Builder
	tabs, first := 0, true
	for i, s := range l {
		if s == "}" {
			tabs--
		}
		if first {
			b.WriteString(strings.Repeat("\t", tabs))
		} else if isApart(l, i) {
			b.WriteString(" ")
		}
		b.WriteString(s)
		if s == "{" {
			tabs++
		}
		goesOn := s == "}" && i+1 < len(l) && slices.Contains([]string{"or", "and", "else"}, l[i+1])
		if first = s == "{" || s == "}" && !goesOn || s == ";"; first {
			b.WriteString("\n")
		}
	}
	return b.String()
}

// counts are the numbers that the limits of a protocol are about.
type counts struct{ roles, messages, items, depth, fields, atoms, receivers, called, blocks int }

func (c counts) kept() bool {
	return c.roles <= 6 && c.messages <= 40 && c.items <= 300 && c.depth <= 10 && c.fields <= 4 && c.atoms <= 6 && c.receivers <= 5 && c.called <= 6 && c.blocks <= 8
}

// listLength returns the number of elements with commas, or another token, in between, up to a token.
func listLength(l []string, between, end string) int {
	if l[0] == end {
		return 0
	}
	n := 1
	for _, s := range l[:slices.Index(l, end)] {
		if s == between {
			n++
		}
	}
	return n
}

// countsOf counts what is in the tokens of a protocol that the grammar permits.
func countsOf(l []string) counts {
	var c counts
	var blocks []int
	closed := 0
	for i, s := range l {
		switch s {
		case "protocol":
			c.roles = listLength(l[i+3:], ",", ")")
		case "message":
			c.messages++
			from := i + slices.Index(l[i:], "(") + 1
			c.fields = max(c.fields, listLength(l[from:], ",", ")"))
		case "where":
			c.atoms = max(c.atoms, listLength(l[i:], "and", ";"))
		case "->":
			c.receivers = max(c.receivers, listLength(l[i:], ",", ":"))
		case "call":
			c.called = max(c.called, listLength(l[i+3:], ",", ")"))
		case "{":
			if closed++; !slices.Contains([]string{"or", "and", "else"}, l[i-1]) {
				closed = 1
			}
			blocks = append(blocks, closed)
			c.blocks = max(c.blocks, closed)
		case "}":
			closed = blocks[len(blocks)-1]
			blocks = blocks[:len(blocks)-1]
		}
		if slices.Contains([]string{"->", "choice", "loop", "again", "par", "call"}, s) {
			c.items++
			c.depth = max(c.depth, len(blocks))
		}
	}
	return c
}

// pathsKept reports whether no path is too long. Those of terms count without their last word.
func pathsKept(l []string) bool {
	inTerm, length := false, 0
	var words []string
	for i, s := range l {
		inTerm = s == "where" || inTerm && s != ";"
		switch {
		case !lex.IsWord(s):
			continue
		case i == 0 || l[i-1] != ".":
			words = nil
		}
		words = append(words, s)
		if length = len(strings.Join(words, ".")); inTerm {
			length = len(strings.Join(words[:len(words)-1], "."))
		}
		if length > 50 {
			return false
		}
	}
	return true
}

// limitsKept reports whether tokens that the grammar permits keep the limits.
func limitsKept(l []string) bool {
	if len(formatted(l)) > 8000 || !pathsKept(l) {
		return false
	}
	protocols := 0
	for i, s := range slices.Backward(l) {
		if s == "protocol" {
			protocols++
			if !countsOf(l[i:]).kept() {
				return false
			}
			l = l[:i]
		}
	}
	return protocols <= 10
}

// model returns what Parse should return, with the canonical source instead of the protocols.
func (r rules) model(s string) (canonical string, at int, e api.Errno) {
	tokens, at, e := lex.Tokens(s)
	if e != api.OK {
		return "", at, e
	}
	i, e := r.check(tokens)
	switch l := texts(tokens); {
	case e != api.OK && i == len(tokens):
		return "", len(s), e
	case e != api.OK:
		return "", tokens[i].From, e
	case !limitsKept(l):
		return "", 0, api.ErrLimit
	default:
		return formatted(l), 0, api.OK
	}
}
