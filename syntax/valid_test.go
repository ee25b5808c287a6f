package syntax_test

import (
	"math"
	"slices"
	"strings"
	"testing"

	"farandole/api"
	"farandole/syntax"
)

// words returns strings, and whether they are words.
func words() map[string]bool {
	l := map[string]bool{"a": true, "Z_9": true, "abcdefghijklmnop": true, "loops": true, "": false, "1": false, "_a": false, "a b": false, "a ": false, "a.b": false, "a,b": false, "a;": false, "é": false, "a\n": false, "abcdefghijklmnopq": false, "//": false}
	for _, s := range keywords() {
		l[s] = false
	}
	return l
}

// paths returns strings, and whether they are paths.
func paths() map[string]bool {
	l := words()
	l["a.b"] = true
	l["a.b.c.d.e.f"] = true
	l[strings.Repeat("abcdefghi.", 4)+"abcdefghij"] = true
	l[strings.Repeat("abcdefghi.", 4)+"abcdefghijk"] = false
	for _, s := range []string{".", "a.", ".a", "a..b", "a. b", "a.1", "a.len", "loop.a"} {
		l[s] = false
	}
	return l
}

// judgeLists tests protocols with lists of 0 to most + 2 words, of which at most most may stand there, and with lists in which not all are words.
func judgeLists(t *testing.T, most int, with func(l []string) []syntax.Protocol) {
	t.Helper()
	for n := range most + 3 {
		judges(t, with(slices.Repeat([]string{"a"}, n)), n >= 1 && n <= most)
	}
	for s, ok := range words() {
		judges(t, with([]string{s}), ok)
		judges(t, with([]string{"a", s, "b"}), ok)
		judges(t, with([]string{"a", "a", s}), ok)
	}
}

// P10.1: the words and paths of protocols and messages.
func TestValidNames(t *testing.T) {
	for s, ok := range words() {
		judges(t, []syntax.Protocol{{Name: s, Roles: []string{"A"}}}, ok)
		judges(t, append(withItems(), syntax.Protocol{Name: s, Roles: []string{"A"}}), ok)
		judges(t, withMessages(syntax.Message{Name: "m", Fields: []api.Field{{Name: s, Sort: api.Sort{Kind: 1}}}}), ok)
		judges(t, withTerm(syntax.Term{Kind: syntax.Ref, Field: s}), ok)
		judges(t, withTerm(syntax.Term{Kind: syntax.Len, Message: "m", Field: s}), ok)
	}
	for s, ok := range paths() {
		judges(t, withMessages(syntax.Message{Name: s}), ok)
		judges(t, withTerm(syntax.Term{Kind: syntax.Ref, Message: s, Field: "x"}), ok || s == "")
		judges(t, withTerm(syntax.Term{Kind: syntax.Len, Message: s, Field: "abcdefghijklmnop"}), ok || s == "")
	}
	judgeLists(t, 6, func(l []string) []syntax.Protocol { return []syntax.Protocol{{Name: "P", Roles: l}} })
	judges(t, []syntax.Protocol{{Name: "P"}}, false)
	judges(t, []syntax.Protocol{{}}, false)
}

// numbers are at the limits, or far beyond them.
func numbers() []int {
	return []int{0, 1, -1, 40, 1000, 1001, 999998, 999999, 1000000, -999998, -999999, -1000000, math.MaxInt, math.MinInt, math.MinInt + 1, 1 << 32, -1 << 32}
}

// P10.1: the sorts of fields.
func TestValidSorts(t *testing.T) {
	for _, kind := range []int{-1, 0, 1, 2, 3, math.MaxInt, math.MinInt} {
		for _, lo := range numbers() {
			for _, hi := range numbers() {
				ok := max(lo, hi) <= 999999 && (kind == 1 && min(lo, hi) >= -999999 || kind == 2 && min(lo, hi) >= 0)
				f := api.Field{Name: "x", Sort: api.Sort{Kind: kind, Lo: lo, Hi: hi}}
				judges(t, withMessages(syntax.Message{Name: "m", Fields: []api.Field{f}}), ok)
				judges(t, withMessages(syntax.Message{Name: "m"}, syntax.Message{Name: "m", Fields: []api.Field{{Name: "x", Sort: api.Sort{Kind: 2}}, f}}), ok)
			}
		}
	}
}

// P10.1: the terms and marks of atoms.
func TestValidAtoms(t *testing.T) {
	for _, kind := range []int{-1, 0, 1, 2, 3, 4, math.MaxInt, math.MinInt} {
		for _, n := range numbers() {
			for _, s := range [][2]string{{"", ""}, {"", "x"}, {"m", ""}, {"m", "x"}} {
				ok := n >= -999999 && n <= 999999 && (kind == 1 && s[0] == "" && s[1] == "" || (kind == 2 || kind == 3) && s[1] != "")
				term, zero := syntax.Term{Kind: kind, Message: s[0], Field: s[1], N: n}, syntax.Term{Kind: syntax.Const}
				judges(t, withTerm(term), ok)
				judges(t, withAtoms(syntax.Atom{Left: term, Op: "<", Right: zero}), ok)
				judges(t, withAtoms(syntax.Atom{Left: zero, Op: "<", Right: zero}, syntax.Atom{Left: zero, Op: "<", Right: term}), ok)
			}
		}
	}
	term := syntax.Term{Kind: syntax.Ref, Field: "x"}
	for _, op := range []string{"<", "<=", "==", ">=", ">", "", "=", "!=", "!", "<<", "=<", "=>", "===", " <", "< ", "&&", "->", "..", "-", "and", "x"} {
		judges(t, withAtoms(syntax.Atom{Left: term, Op: op, Right: term}), slices.Contains([]string{"<", "<=", "==", ">=", ">"}, op))
	}
}

// items returns a valid item of each kind.
func items() []syntax.Item {
	return []syntax.Item{send("m"), choice(0, nil), choice(5, nil, []syntax.Item{send("m")}), loop(send("m")), {Kind: syntax.Again, Name: "L"}, par(nil, nil), {Kind: syntax.Call, To: []string{"A"}, Name: "Q", As: "x"}}
}

// judgeItem tests an item alone, and in a block.
func judgeItem(t *testing.T, x syntax.Item, valid bool) {
	t.Helper()
	judges(t, withItems(x), valid)
	judges(t, withItems(send("m"), x), valid)
	judges(t, withItems(loop(choice(0, nil, []syntax.Item{x})), send("m")), valid)
	judges(t, append(withItems(), withItems(x)...), valid)
}

// P10.1: the fields that items have, and those that they do not have.
func TestValidItems(t *testing.T) {
	for _, x := range items() {
		judgeItem(t, x, true)
		for s, ok := range words() {
			y := x
			y.From = s
			judgeItem(t, y, ok && (x.Kind <= syntax.Choice) || s == x.From)
			y = x
			y.As = s
			judgeItem(t, y, ok && x.Kind == syntax.Call || s == x.As)
		}
		for s, ok := range paths() {
			y := x
			y.Name = s
			uses := x.Kind == syntax.Send || x.Kind == syntax.Loop || x.Kind == syntax.Again || x.Kind == syntax.Call && !strings.Contains(s, ".")
			judgeItem(t, y, ok && uses || s == x.Name)
		}
		for _, n := range append(numbers(), 999, -5) {
			y := x
			y.Ticks = n
			least := 1 + min(max(n, 0), 1)
			judgeItem(t, y, x.Kind == syntax.Choice && n >= 0 && n <= 1000 && len(x.Blocks) >= least || n == x.Ticks)
		}
	}
	for _, kind := range []int{-1, 0, 7, 8, math.MaxInt, math.MinInt} {
		judgeItem(t, syntax.Item{Kind: kind}, false)
		for _, x := range items() {
			x.Kind = kind
			judgeItem(t, x, false)
		}
	}
}

// P10.1: the receivers of messages and the roles of calls, and no words for other items.
func TestValidReceivers(t *testing.T) {
	for _, x := range items() {
		most := map[int]int{syntax.Send: 5, syntax.Call: 6}[x.Kind]
		if most == 0 {
			for _, l := range [][]string{nil, {}, {""}, {"A"}, {"A", "B"}} {
				x.To = l
				judgeItem(t, x, len(l) == 0)
			}
			continue
		}
		judgeLists(t, most, func(l []string) []syntax.Protocol {
			x.To = l
			return withItems(loop(x))
		})
	}
}

// P10.1: the numbers of blocks.
func TestValidBlocks(t *testing.T) {
	for _, x := range items() {
		for n := range 12 {
			x.Blocks = make([][]syntax.Item, n)
			valid := false
			switch x.Kind {
			case syntax.Choice:
				valid = n >= 1 && n <= 8 && (n >= 2 || x.Ticks == 0)
			case syntax.Loop:
				valid = n == 1
			case syntax.Par:
				valid = n >= 2 && n <= 8
			default:
				valid = n == 0
			}
			judgeItem(t, x, valid)
			for i := range n {
				x.Blocks[i] = []syntax.Item{send("m"), loop()}
				judgeItem(t, x, valid)
				x.Blocks[i] = []syntax.Item{send("m"), {}}
				judgeItem(t, x, false)
				x.Blocks[i] = nil
			}
		}
	}
}

// eachItem calls a function with each of the items, also in blocks.
func eachItem(l []syntax.Item, call func(x *syntax.Item)) {
	for i := range l {
		call(&l[i])
		for _, block := range l[i].Blocks {
			eachItem(block, call)
		}
	}
}

// shaken returns protocols with random changes, which are valid or not.
func shaken(g *grower, l []syntax.Protocol) []syntax.Protocol {
	l = copyOf(l)
	text := func(s *string) { *s = pick(g, "", "a", "B", "a.b", "loop", "a b", *s) }
	number := func(n *int) { *n = pick(g, 0, 1, 2, 3, 1000, 1001, -1, 999999, 1000000, *n) }
	list := func(l *[]string) {
		*l = pick(g, nil, []string{}, append(*l, "a"), append(*l, ""), slices.Repeat(*l, 2))
	}
	item := func(x *syntax.Item) {
		if g.Intn(8) == 0 {
			number(&x.Kind)
		}
		pick(g, func() { text(&x.From) }, func() { text(&x.Name) }, func() { text(&x.As) }, func() { number(&x.Ticks) }, func() { list(&x.To) }, func() { x.Blocks = append(x.Blocks, nil) }, func() { x.Blocks = nil })()
	}
	for i := range l {
		if g.Intn(8) == 0 {
			text(&l[i].Name)
			list(&l[i].Roles)
		}
		for j := range l[i].Messages {
			m := &l[i].Messages[j]
			for k := range m.Where {
				a := &m.Where[k]
				pick(g, func() {}, func() { text(&a.Left.Field) }, func() { text(&a.Right.Message) }, func() { number(&a.Left.N) }, func() { number(&a.Right.Kind) }, func() { text(&a.Op) })()
			}
			for k := range m.Fields {
				f := &m.Fields[k]
				pick(g, func() {}, func() { text(&f.Name) }, func() { number(&f.Sort.Kind) }, func() { number(&f.Sort.Lo) }, func() { number(&f.Sort.Hi) })()
			}
		}
		eachItem(l[i].Body, func(x *syntax.Item) {
			if g.Intn(10) == 0 {
				item(x)
			}
		})
	}
	return l
}

// P10.1: random protocols with random changes.
func TestValid(t *testing.T) {
	g := newGrower(105)
	valid := 0
	for _, l := range someProtocols(106, 3000) {
		l = shaken(g, l)
		judges(t, l, validity(l))
		if syntax.Valid(l) {
			valid++
		}
	}
	if valid < 300 || valid > 2700 {
		t.Errorf("%d of 3000 are valid", valid)
	}
}
