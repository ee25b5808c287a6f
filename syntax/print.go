package syntax

import (
	"strconv"
	"strings"

	"farandole/api"
)

// printer writes a canonical source; depth is the number of tabs ahead of a line.
type printer struct {
	strings.Builder
	depth int
}

// canonical returns the canonical source of protocols.
func canonical(l []Protocol) string {
	p := &printer{}
	for _, x := range l {
		p.protocol(x)
	}
	return p.String()
}

func (p *printer) line(parts ...string) {
	for range p.depth {
		p.WriteByte('\t')
	}
	for _, part := range parts {
		p.WriteString(part)
	}
	p.WriteByte('\n')
}

func (p *printer) protocol(x Protocol) {
	p.line("protocol ", x.Name, listed(x.Roles), " {")
	p.depth++
	for _, m := range x.Messages {
		p.message(m)
	}
	p.depth--
	p.block(x.Body)
	p.line("}")
}

func (p *printer) message(x Message) {
	var fields, atoms []string
	for _, f := range x.Fields {
		fields = append(fields, showField(f))
	}
	for _, a := range x.Where {
		atoms = append(atoms, showAtom(a))
	}
	where := ""
	if len(atoms) > 0 {
		where = " where " + strings.Join(atoms, " and ")
	}
	p.line("message ", x.Name, listed(fields), where, ";")
}

// block writes items between the lines of their braces.
func (p *printer) block(l []Item) {
	p.depth++
	for _, x := range l {
		p.item(x)
	}
	p.depth--
}

func (p *printer) item(x Item) {
	switch x.Kind {
	case Send:
		p.line(x.From, " -> ", strings.Join(x.To, ", "), ": ", x.Name, ";")
	case Choice:
		p.blocks("choice at "+x.From+within(x), "or", x)
	case Loop:
		p.blocks("loop "+x.Name, "", x)
	case Again:
		p.line("again ", x.Name, ";")
	case Par:
		p.blocks("par", "and", x)
	case Call:
		p.line("call ", x.Name, listed(x.To), " as ", x.As, ";")
	}
}

// blocks writes the blocks of an item: the first one behind its head, the others behind a keyword.
func (p *printer) blocks(head, keyword string, x Item) {
	for i, block := range x.Blocks {
		switch {
		case i == 0:
			p.line(head, " {")
		case isElse(x, i):
			p.line("} else {")
		default:
			p.line("} ", keyword, " {")
		}
		p.block(block)
	}
	p.line("}")
}

// isElse reports whether a block of an item is an else block.
func isElse(x Item, block int) bool { return x.Ticks > 0 && block == len(x.Blocks)-1 }

func within(x Item) string {
	if x.Ticks == 0 {
		return ""
	}
	return " within " + strconv.Itoa(x.Ticks)
}

// listed returns a list in parentheses.
func listed(l []string) string { return "(" + strings.Join(l, ", ") + ")" }

func showField(f api.Field) string {
	kind := "int "
	if f.Sort.Kind == api.SortText {
		kind = "text "
	}
	return f.Name + ": " + kind + strconv.Itoa(f.Sort.Lo) + ".." + strconv.Itoa(f.Sort.Hi)
}

func showAtom(a Atom) string { return showTerm(a.Left) + " " + a.Op + " " + showTerm(a.Right) }

func showTerm(t Term) string {
	if t.Kind == Const {
		return strconv.Itoa(t.N)
	}
	s := t.Field
	if t.Message != "" {
		s = t.Message + "." + t.Field
	}
	if t.Kind == Len {
		s = "len(" + s + ")"
	}
	return s + showAdded(t.N)
}

func showAdded(n int) string {
	switch {
	case n > 0:
		return " + " + strconv.Itoa(n)
	case n < 0:
		return " - " + strconv.Itoa(-n)
	}
	return ""
}
