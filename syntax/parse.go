package syntax

import (
	"strings"

	"farandole/api"
	"farandole/lex"
)

// parser reads tokens by recursive descent. At the first error it drops all tokens that follow, so that every method comes to its end without a test for the error.
type parser struct {
	rest []lex.Token
	end  int // the length of the source
	at   int // the offset of the first error
	e    api.Errno
}

// more reports whether there is a token.
func (p *parser) more() bool { return len(p.rest) > 0 }

// next returns the token that stands next. At the end it has no kind.
func (p *parser) next() lex.Token {
	if !p.more() {
		return lex.Token{From: p.end}
	}
	return p.rest[0]
}

// fail keeps an error of the token that stands next, unless there is one already.
func (p *parser) fail(e api.Errno) {
	if p.e == api.OK {
		p.at, p.e = p.next().From, e
		p.rest = nil
	}
}

// read returns the token that stands next, and goes on behind it, if it is permitted there.
func (p *parser) read(permitted bool) lex.Token {
	t := p.next()
	if !permitted {
		p.fail(api.ErrSyntax)
		return lex.Token{}
	}
	p.rest = p.rest[1:]
	return t
}

// sees reports whether a mark or a keyword stands next.
func (p *parser) sees(text string) bool {
	t := p.next()
	return (t.Kind == lex.Mark || t.Kind == lex.Name) && t.Text == text
}

// expect reads a mark or a keyword that has to stand next.
func (p *parser) expect(text string) { p.read(p.sees(text)) }

// take reads a mark or a keyword, if it stands next.
func (p *parser) take(text string) bool {
	if !p.sees(text) {
		return false
	}
	p.expect(text)
	return true
}

// separated reads one part or several ones with a mark or a keyword in between.
func separated[T any](p *parser, mark string, read func() T) []T {
	l := []T{read()}
	for p.take(mark) {
		l = append(l, read())
	}
	return l
}

func (p *parser) word() string {
	t := p.next()
	return p.read(t.Kind == lex.Name && lex.IsWord(t.Text)).Text
}

func (p *parser) words() []string { return separated(p, ",", p.word) }

func (p *parser) path() string { return strings.Join(separated(p, ".", p.word), ".") }

func (p *parser) number() int { return p.read(p.next().Kind == lex.Number).Value }

func (p *parser) signed() int {
	if p.take("-") {
		return -p.number()
	}
	return p.number()
}

func (p *parser) source() []Protocol {
	var l []Protocol
	for p.more() {
		l = append(l, p.protocol())
	}
	return l
}

func (p *parser) protocol() Protocol {
	var x Protocol
	p.expect("protocol")
	x.Name = p.word()
	p.expect("(")
	x.Roles = p.words()
	p.expect(")")
	p.expect("{")
	for p.sees("message") {
		x.Messages = append(x.Messages, p.message())
	}
	x.Body = p.items()
	return x
}

func (p *parser) message() Message {
	var x Message
	p.expect("message")
	x.Name = p.path()
	p.expect("(")
	if !p.sees(")") {
		x.Fields = separated(p, ",", p.field)
	}
	p.expect(")")
	if p.take("where") {
		x.Where = separated(p, "and", p.atom)
	}
	p.expect(";")
	return x
}

func (p *parser) field() api.Field {
	name := p.word()
	p.expect(":")
	if p.take("text") {
		return api.Field{Name: name, Sort: p.sort(api.SortText, p.number)}
	}
	p.expect("int")
	return api.Field{Name: name, Sort: p.sort(api.SortInt, p.signed)}
}

// sort reads the numbers of a sort.
func (p *parser) sort(kind int, read func() int) api.Sort {
	lo := read()
	p.expect("..")
	hi := read()
	return api.Sort{Kind: kind, Lo: lo, Hi: hi}
}

func (p *parser) atom() Atom {
	left := p.term()
	op := p.op()
	right := p.term()
	return Atom{Left: left, Op: op, Right: right}
}

func (p *parser) op() string {
	t := p.next()
	return p.read(t.Kind == lex.Mark && isOp(t.Text)).Text
}

func (p *parser) term() Term {
	if p.take("len") {
		p.expect("(")
		message, field := p.variable()
		p.expect(")")
		return Term{Kind: Len, Message: message, Field: field, N: p.added()}
	}
	if p.next().Kind == lex.Name {
		message, field := p.variable()
		return Term{Kind: Ref, Message: message, Field: field, N: p.added()}
	}
	return Term{Kind: Const, N: p.signed()}
}

// variable reads the path of a term, whose last word is the field.
func (p *parser) variable() (message, field string) {
	words := separated(p, ".", p.word)
	last := len(words) - 1
	return strings.Join(words[:last], "."), words[last]
}

// added reads the number that is added to a field.
func (p *parser) added() int {
	switch {
	case p.take("+"):
		return p.number()
	case p.take("-"):
		return -p.number()
	}
	return 0
}

func (p *parser) block() []Item {
	p.expect("{")
	return p.items()
}

// items reads the items of a block or of a protocol, and the closing brace.
func (p *parser) items() []Item {
	var l []Item
	for p.more() && !p.sees("}") {
		l = append(l, p.item())
	}
	p.expect("}")
	return l
}

func (p *parser) item() Item {
	switch {
	case p.take("choice"):
		return p.choice()
	case p.take("loop"):
		return p.loop()
	case p.take("again"):
		return p.again()
	case p.take("par"):
		return p.par()
	case p.take("call"):
		return p.call()
	}
	return p.send()
}

func (p *parser) send() Item {
	x := Item{Kind: Send, From: p.word()}
	p.expect("->")
	x.To = p.words()
	p.expect(":")
	x.Name = p.path()
	p.expect(";")
	return x
}

func (p *parser) choice() Item {
	x := Item{Kind: Choice}
	p.expect("at")
	x.From = p.word()
	if p.take("within") {
		x.Ticks = p.ticks()
	}
	x.Blocks = separated(p, "or", p.block)
	if x.Ticks > 0 {
		p.expect("else")
		x.Blocks = append(x.Blocks, p.block())
	}
	return x
}

// ticks reads the number behind within.
func (p *parser) ticks() int {
	if t := p.next(); t.Kind == lex.Number && (t.Value < 1 || t.Value > api.MaxTicks) {
		p.fail(api.ErrRange)
	}
	return p.number()
}

func (p *parser) loop() Item {
	x := Item{Kind: Loop, Name: p.path()}
	x.Blocks = [][]Item{p.block()}
	return x
}

func (p *parser) again() Item {
	x := Item{Kind: Again, Name: p.path()}
	p.expect(";")
	return x
}

func (p *parser) par() Item {
	first := p.block()
	p.expect("and")
	others := separated(p, "and", p.block)
	return Item{Kind: Par, Blocks: append([][]Item{first}, others...)}
}

func (p *parser) call() Item {
	x := Item{Kind: Call, Name: p.word()}
	p.expect("(")
	x.To = p.words()
	p.expect(")")
	p.expect("as")
	x.As = p.word()
	p.expect(";")
	return x
}
