package syntax_test

import (
	"math/rand"
	"regexp"
	"slices"
	"strconv"
	"strings"
	"testing"

	"farandole/api"
	"farandole/syntax"
)

// dump writes everything in protocols in a way that differs exactly if they do; nil and empty lists are equal.
func dump(l []syntax.Protocol) string {
	var b strings.Builder
	for _, p := range l {
		b.WriteString("protocol " + dumpTexts([]string{p.Name}) + dumpTexts(p.Roles))
		for _, m := range p.Messages {
			b.WriteString("\n message " + dumpTexts([]string{m.Name}))
			for _, f := range m.Fields {
				b.WriteString("\n  field " + dumpTexts([]string{f.Name}) + dumpNumbers(f.Sort.Kind, f.Sort.Lo, f.Sort.Hi))
			}
			for _, a := range m.Where {
				b.WriteString("\n  atom " + dumpTerm(a.Left) + dumpTexts([]string{a.Op}) + dumpTerm(a.Right))
			}
		}
		b.WriteString("\n body" + dumpItems(p.Body) + "\n")
	}
	return b.String()
}

func dumpTexts(l []string) string {
	var b strings.Builder
	for _, s := range l {
		b.WriteString(strconv.Quote(s))
	}
	return "[" + b.String() + "]"
}

func dumpNumbers(l ...int) string {
	out := "<"
	for _, n := range l {
		out += strconv.Itoa(n) + " "
	}
	return out + ">"
}

func dumpTerm(t syntax.Term) string {
	return dumpTexts([]string{t.Message, t.Field}) + dumpNumbers(t.Kind, t.N)
}

func dumpItems(l []syntax.Item) string {
	var b strings.Builder
	b.WriteString("{")
	for _, x := range l {
		b.WriteString("\nitem " + dumpNumbers(x.Kind, x.Ticks) + dumpTexts([]string{x.From, x.Name, x.As}) + dumpTexts(x.To))
		for _, block := range x.Blocks {
			b.WriteString(dumpItems(block))
		}
	}
	return b.String() + "}"
}

// copyOf returns a copy of protocols in memory of its own.
func copyOf(l []syntax.Protocol) []syntax.Protocol {
	l = slices.Clone(l)
	for i, p := range l {
		l[i].Roles = slices.Clone(p.Roles)
		l[i].Messages = slices.Clone(p.Messages)
		for j, m := range p.Messages {
			l[i].Messages[j].Fields = slices.Clone(m.Fields)
			l[i].Messages[j].Where = slices.Clone(m.Where)
		}
		l[i].Body = copyOfItems(p.Body)
	}
	return l
}

func copyOfItems(l []syntax.Item) []syntax.Item {
	l = slices.Clone(l)
	for i, x := range l {
		l[i].To = slices.Clone(x.To)
		l[i].Blocks = slices.Clone(x.Blocks)
		for j, block := range x.Blocks {
			l[i].Blocks[j] = copyOfItems(block)
		}
	}
	return l
}

// withItems returns a protocol with a body.
func withItems(l ...syntax.Item) []syntax.Protocol {
	return []syntax.Protocol{{Name: "P", Roles: []string{"A", "B"}, Body: l}}
}

// withMessages returns a protocol with messages.
func withMessages(l ...syntax.Message) []syntax.Protocol {
	return []syntax.Protocol{{Name: "P", Roles: []string{"A", "B"}, Messages: l}}
}

// withAtoms returns a protocol with a message with atoms.
func withAtoms(l ...syntax.Atom) []syntax.Protocol {
	return withMessages(syntax.Message{Name: "m", Where: l})
}

// withTerm returns a protocol with a term on both sides of an atom.
func withTerm(t syntax.Term) []syntax.Protocol {
	return withAtoms(syntax.Atom{Left: t, Op: "<", Right: t})
}

// send, loop, choice and par return items with the given parts.
func send(name string) syntax.Item {
	return syntax.Item{Kind: syntax.Send, From: "A", To: []string{"B"}, Name: name}
}

func loop(l ...syntax.Item) syntax.Item {
	return syntax.Item{Kind: syntax.Loop, Name: "L", Blocks: [][]syntax.Item{l}}
}

func choice(ticks int, blocks ...[]syntax.Item) syntax.Item {
	return syntax.Item{Kind: syntax.Choice, From: "A", Ticks: ticks, Blocks: blocks}
}

func par(blocks ...[]syntax.Item) syntax.Item {
	return syntax.Item{Kind: syntax.Par, Blocks: blocks}
}

// grower makes random valid protocols; left is the number of items that a protocol may still get.
type grower struct {
	*rand.Rand
	left int
}

func newGrower(seed int64) *grower { return &grower{Rand: rand.New(rand.NewSource(seed))} }

// pick returns one of a list.
func pick[T any](g *grower, l ...T) T { return l[g.Intn(len(l))] }

// several returns a list of least to most random elements.
func several[T any](g *grower, least, most int, element func() T) []T {
	var l []T
	for range least + g.Intn(most-least+1) {
		l = append(l, element())
	}
	return l
}

func (g *grower) word() string {
	return pick(g, "a", "B", "x", "y1", "Z_9", "m", "loops", "int_", "Loop", "protocol1", "abcdefghijklmnop", "A_______________", "i", "le", "wher", "q"+strconv.Itoa(g.Intn(100)))
}

func (g *grower) path() string {
	for {
		if s := strings.Join(several(g, 1, pick(g, 1, 1, 2, 4, 9), g.word), "."); len(s) <= 50 {
			return s
		}
	}
}

// constant returns a number that a source may have.
func (g *grower) constant() int {
	return pick(g, 0, 0, 1, 9, 10, 40, 1000, 99999, 999999, g.Intn(1000), g.Intn(1000000))
}

func (g *grower) signed() int { return pick(g, 1, -1) * g.constant() }

func (g *grower) field() api.Field {
	if g.Intn(2) == 0 {
		return api.Field{Name: g.word(), Sort: api.Sort{Kind: api.SortText, Lo: g.constant(), Hi: g.constant()}}
	}
	return api.Field{Name: g.word(), Sort: api.Sort{Kind: api.SortInt, Lo: g.signed(), Hi: g.signed()}}
}

func (g *grower) term() syntax.Term {
	t := syntax.Term{Kind: pick(g, syntax.Const, syntax.Ref, syntax.Len), N: g.signed()}
	if t.Kind != syntax.Const {
		t.Field = g.word()
		if g.Intn(2) == 0 {
			t.Message = g.path()
		}
	}
	return t
}

func (g *grower) atom() syntax.Atom {
	return syntax.Atom{Left: g.term(), Op: pick(g, "<", "<=", "==", ">=", ">"), Right: g.term()}
}

func (g *grower) message() syntax.Message {
	return syntax.Message{Name: g.path(), Fields: several(g, 0, 4, g.field), Where: several(g, 0, pick(g, 0, 1, 6), g.atom)}
}

// block returns items, none of which is deeper than the given depth.
func (g *grower) block(depth int) []syntax.Item {
	var l []syntax.Item
	for range pick(g, 0, 1, 1, 2, 2, 5) {
		if depth > 0 && g.left > 0 {
			g.left--
			l = append(l, g.item(depth))
		}
	}
	return l
}

func (g *grower) item(depth int) syntax.Item {
	block := func() []syntax.Item { return g.block(depth - 1) }
	x := syntax.Item{Kind: 1 + g.Intn(6)}
	switch x.Kind {
	case syntax.Send:
		x.From, x.To, x.Name = g.word(), several(g, 1, 5, g.word), g.path()
	case syntax.Choice:
		x.From, x.Ticks = g.word(), pick(g, 0, 0, 1, 20, 999, 1000)
		x.Blocks = several(g, 1+min(x.Ticks, 1), pick(g, 2, 2, 3, 8), block)
	case syntax.Loop:
		x.Name, x.Blocks = g.path(), several(g, 1, 1, block)
	case syntax.Again:
		x.Name = g.path()
	case syntax.Par:
		x.Blocks = several(g, 2, pick(g, 2, 2, 3, 8), block)
	case syntax.Call:
		x.Name, x.To, x.As = g.word(), several(g, 1, 6, g.word), g.word()
	}
	return x
}

func (g *grower) protocol() syntax.Protocol {
	g.left = pick(g, 0, 1, 3, 10, 40)
	return syntax.Protocol{Name: g.word(), Roles: several(g, 1, 6, g.word), Messages: several(g, 0, 4, g.message), Body: g.block(pick(g, 1, 2, 4, 10))}
}

// protocols returns valid protocols, of which several may be too long for one source only together.
func (g *grower) protocols() []syntax.Protocol {
	for {
		l := several(g, 0, pick(g, 1, 1, 2, 3, 10), g.protocol)
		if len(formatted(tokensOf(l))) <= 8000 {
			return l
		}
	}
}

// someProtocols returns lists of random valid protocols.
func someProtocols(seed int64, n int) [][]syntax.Protocol {
	g := newGrower(seed)
	return several(g, n, n, g.protocols)
}

// tokensOf returns the tokens of protocols, with signs of zeros and with zeros that are added.
func tokensOf(l []syntax.Protocol) []string {
	var out []string
	for _, p := range l {
		out = append(out, "protocol", p.Name)
		out = append(out, listTokens(p.Roles)...)
		out = append(out, "{")
		for _, m := range p.Messages {
			out = append(out, messageTokens(m)...)
		}
		out = append(append(out, itemTokens(p.Body)...), "}")
	}
	return out
}

// compact returns a source with spaces only where tokens would be joined.
func compact(l []string) string {
	var b strings.Builder
	for i, s := range l {
		if i > 0 && nameOrNumber.MatchString(l[i-1]) && nameOrNumber.MatchString(s) {
			b.WriteString(" ")
		}
		b.WriteString(s)
	}
	return b.String()
}

var nameOrNumber = regexp.MustCompile(`^[A-Za-z0-9]`)

// pathTokens returns the tokens of a path.
func pathTokens(s string) []string {
	return strings.Split(strings.ReplaceAll(s, ".", " . "), " ")
}

// joined returns the tokens of parts with a token in between.
func joined(parts [][]string, between string) []string {
	var out []string
	for i, part := range parts {
		if i > 0 {
			out = append(out, between)
		}
		out = append(out, part...)
	}
	return out
}

// listTokens returns the tokens of words in parentheses.
func listTokens(l []string) []string {
	return slices.Concat([]string{"("}, wordTokens(l), []string{")"})
}

func wordTokens(l []string) []string {
	var parts [][]string
	for _, s := range l {
		parts = append(parts, []string{s})
	}
	return joined(parts, ",")
}

// numberTokens returns the tokens of a number behind a token for what is not negative, or nothing.
func numberTokens(n int, plus ...string) []string {
	if n < 0 {
		return []string{"-", strconv.Itoa(-n)}
	}
	return append(plus, strconv.Itoa(n))
}

func messageTokens(m syntax.Message) []string {
	var fields, atoms [][]string
	for _, f := range m.Fields {
		kind := map[int]string{1: "int", 2: "text"}[f.Sort.Kind]
		fields = append(fields, slices.Concat([]string{f.Name, ":", kind}, numberTokens(f.Sort.Lo), []string{".."}, numberTokens(f.Sort.Hi)))
	}
	for _, a := range m.Where {
		atoms = append(atoms, slices.Concat(termTokens(a.Left), []string{a.Op}, termTokens(a.Right)))
	}
	out := slices.Concat([]string{"message"}, pathTokens(m.Name), []string{"("}, joined(fields, ","), []string{")"})
	if len(atoms) > 0 {
		out = append(append(out, "where"), joined(atoms, "and")...)
	}
	return append(out, ";")
}

func termTokens(t syntax.Term) []string {
	path := pathTokens(strings.TrimPrefix(t.Message+"."+t.Field, "."))
	switch t.Kind {
	case 1:
		return numberTokens(t.N)
	case 3:
		path = slices.Concat([]string{"len", "("}, path, []string{")"})
	}
	return append(path, numberTokens(t.N, "+")...)
}

func itemTokens(l []syntax.Item) []string {
	var out []string
	for _, x := range l {
		var blocks [][]string
		for _, block := range x.Blocks {
			blocks = append(blocks, slices.Concat([]string{"{"}, itemTokens(block), []string{"}"}))
		}
		switch x.Kind {
		case 1:
			out = append(out, slices.Concat([]string{x.From, "->"}, wordTokens(x.To), []string{":"}, pathTokens(x.Name), []string{";"})...)
		case 2:
			out = append(out, "choice", "at", x.From)
			last := len(blocks)
			if x.Ticks > 0 {
				last--
				out = append(out, "within", strconv.Itoa(x.Ticks))
			}
			out = append(out, joined(blocks[:last], "or")...)
			if x.Ticks > 0 {
				out = append(append(out, "else"), blocks[last]...)
			}
		case 3:
			out = append(append(append(out, "loop"), pathTokens(x.Name)...), blocks[0]...)
		case 4:
			out = append(append(append(out, "again"), pathTokens(x.Name)...), ";")
		case 5:
			out = append(append(out, "par"), joined(blocks, "and")...)
		case 6:
			out = append(append(append(out, "call", x.Name), listTokens(x.To)...), "as", x.As, ";")
		}
	}
	return out
}

// validity reports whether protocols are valid, by the definitions of the chapter.
func validity(l []syntax.Protocol) bool {
	for _, p := range l {
		items := 0
		if !areWords(p.Roles, 6) || !isWord(p.Name) || len(p.Messages) > 40 || !areValid(p.Body, 10, &items) || items > 300 {
			return false
		}
		if slices.ContainsFunc(p.Messages, func(m syntax.Message) bool { return !isValidMessage(m) }) {
			return false
		}
	}
	return len(l) <= 10 && len(formatted(tokensOf(l))) <= 8000
}

var wordForm = regexp.MustCompile(`^[A-Za-z][A-Za-z0-9_]{0,15}$`)

// isWord reports whether a string is a word.
func isWord(s string) bool {
	return wordForm.MatchString(s) && !slices.Contains(keywords(), s)
}

// areWords reports whether a list has 1 to most words.
func areWords(l []string, most int) bool {
	return len(l) >= 1 && len(l) <= most && !slices.ContainsFunc(l, func(s string) bool { return !isWord(s) })
}

// isPath reports whether a string is a path.
func isPath(s string) bool { return len(s) <= 50 && areWords(strings.Split(s, "."), 50) }

func isValidMessage(m syntax.Message) bool {
	for _, f := range m.Fields {
		least := map[int]int{1: -999999, 2: 0}[f.Sort.Kind]
		if !isWord(f.Name) || f.Sort.Kind < 1 || f.Sort.Kind > 2 || min(f.Sort.Lo, f.Sort.Hi) < least || max(f.Sort.Lo, f.Sort.Hi) > 999999 {
			return false
		}
	}
	for _, a := range m.Where {
		if !isValidTerm(a.Left) || !isValidTerm(a.Right) || !slices.Contains([]string{"<", "<=", "==", ">=", ">"}, a.Op) {
			return false
		}
	}
	return isPath(m.Name) && len(m.Fields) <= 4 && len(m.Where) <= 6
}

func isValidTerm(t syntax.Term) bool {
	if t.N < -999999 || t.N > 999999 || t.Kind < 1 || t.Kind > 3 {
		return false
	}
	if t.Kind == 1 {
		return t.Message+t.Field == ""
	}
	return isWord(t.Field) && (t.Message == "" || isPath(t.Message))
}

// areValid reports whether items of at most the given depth are valid, and counts them.
func areValid(l []syntax.Item, depth int, count *int) bool {
	if *count += len(l); *count > 300 || depth == 0 && len(l) > 0 {
		return false
	}
	for _, x := range l {
		if !isValidItem(x) {
			return false
		}
		for _, block := range x.Blocks {
			if !areValid(block, depth-1, count) {
				return false
			}
		}
	}
	return true
}

// isValidItem looks at one field after the other: what it has to be, or that it is not used.
func isValidItem(x syntax.Item) bool {
	noFrom, noTo, noName, noAs, noTicks := x.From == "", len(x.To) == 0, x.Name == "", x.As == "", x.Ticks == 0
	n := len(x.Blocks)
	switch x.Kind {
	case 1:
		return isWord(x.From) && areWords(x.To, 5) && isPath(x.Name) && noAs && noTicks && n == 0
	case 2:
		within := x.Ticks >= 1 && x.Ticks <= 1000
		return isWord(x.From) && noTo && noName && noAs && (noTicks && n >= 1 || within && n >= 2) && n <= 8
	case 3:
		return noFrom && noTo && isPath(x.Name) && noAs && noTicks && n == 1
	case 4:
		return noFrom && noTo && isPath(x.Name) && noAs && noTicks && n == 0
	case 5:
		return noFrom && noTo && noName && noAs && noTicks && n >= 2 && n <= 8
	case 6:
		return noFrom && areWords(x.To, 6) && isWord(x.Name) && isWord(x.As) && noTicks && n == 0
	}
	return false
}

// keywords returns all keywords.
func keywords() []string {
	return strings.Fields(`again and as at call choice else from if int len loop message of offer on or par plays protocol service text times to var where while within`)
}

// judges tests what Valid, Print and Equal answer for protocols that are valid, or not.
func judges(t *testing.T, l []syntax.Protocol, valid bool) {
	t.Helper()
	if syntax.Valid(l) != valid {
		t.Fatalf("Valid is %v for %.2000s", !valid, dump(l))
	}
	want, e := "", api.ErrArg
	if valid {
		want, e = formatted(tokensOf(l)), api.OK
	}
	if got, err := syntax.Print(l); got != want || err != e {
		t.Fatalf("%.2000s: %v with %.2000q, want %v with %.2000q", dump(l), err, got, e, want)
	}
	if !syntax.Equal(l, l) || !syntax.Equal(l, copyOf(l)) {
		t.Fatalf("not equal to itself: %.2000s", dump(l))
	}
}
