package names

import (
	"slices"
	"strings"

	"farandole/api"
	"farandole/syntax"
)

// maxCalls is the greatest number of calls in a chain.
const maxCalls = 4

// What names are names of.
const (
	aProtocol = 1 + iota
	aRole
	aMessage
	aCall
)

// name is a name with what it is the name of, as a role and a message may have the same one.
type name struct {
	of   int
	text string
}

// field is a field of a message, by their names.
type field struct{ message, name string }

// checker checks protocols one after the other, and keeps the first problem.
type checker struct {
	all     []syntax.Protocol
	first   map[name]int // the first protocol of each name
	p       syntax.Protocol
	known   map[name]bool      // the names that p has declared so far
	sorts   map[field]api.Sort // those of all fields of p
	open    []level            // where the walk over p is
	problem Problem
}

func newChecker(l []syntax.Protocol) *checker {
	c := &checker{all: l, first: map[name]int{}}
	for i, p := range slices.Backward(l) {
		c.first[name{aProtocol, p.Name}] = i
	}
	return c
}

func (c *checker) protocol(i int) {
	c.p = c.all[i]
	c.known = map[name]bool{}
	c.sorts = map[field]api.Sort{}
	if c.first[name{aProtocol, c.p.Name}] != i {
		c.fail(c.p.Name, api.ErrExist)
	}
	for _, role := range c.p.Roles {
		c.declare(aRole, role)
	}
	for _, m := range c.p.Messages {
		c.declare(aMessage, m.Name)
		c.fields(m)
	}
	for _, m := range c.p.Messages {
		for _, a := range m.Where {
			c.atom(m.Name, a)
		}
	}
	c.walk()
	c.chains()
}

// fail keeps a problem, unless there is one already.
func (c *checker) fail(text string, e api.Errno) {
	if c.problem.Err == api.OK {
		c.problem = Problem{strings.Clone(c.p.Name), strings.Clone(text), e}
	}
}

// declare makes a name known, which must be a new one.
func (c *checker) declare(of int, text string) {
	if c.known[name{of, text}] {
		c.fail(text, api.ErrExist)
	}
	c.known[name{of, text}] = true
}

func (c *checker) fields(m syntax.Message) {
	for _, f := range m.Fields {
		at := field{m.Name, f.Name}
		if _, ok := c.sorts[at]; ok {
			c.fail(f.Name, api.ErrExist)
		}
		if !hasValues(f.Sort) {
			c.fail(f.Name, api.ErrRange)
		}
		c.sorts[at] = f.Sort
	}
}

// hasValues reports whether a sort has values, and none that is not permitted.
func hasValues(s api.Sort) bool {
	if s.Kind == api.SortText {
		return 0 <= s.Lo && s.Lo <= s.Hi && s.Hi <= api.MaxText
	}
	return -api.MaxInt <= s.Lo && s.Lo <= s.Hi && s.Hi <= api.MaxInt
}

func (c *checker) atom(message string, a syntax.Atom) {
	left, right := c.kindOf(message, a.Left), c.kindOf(message, a.Right)
	switch {
	case left == noKind || right == noKind:
		c.fail(message, api.ErrName)
	case isLenOfInt(a.Left, left) || isLenOfInt(a.Right, right):
		c.fail(message, api.ErrType)
	case isTextRef(a.Left, left) != isTextRef(a.Right, right):
		c.fail(message, api.ErrType)
	case isTextRef(a.Left, left) && (a.Op != "==" || a.Left.N != 0 || a.Right.N != 0):
		c.fail(message, api.ErrType)
	}
}

// noKind stands for the kind of the sort of a field that does not exist.
const noKind = -1

// kindOf returns the kind of the sort of the field that a term of a message names, or 0 for a number.
func (c *checker) kindOf(message string, t syntax.Term) int {
	if t.Kind == syntax.Const {
		return 0
	}
	if t.Message != "" {
		message = t.Message
	}
	sort, ok := c.sorts[field{message, t.Field}]
	if !ok {
		return noKind
	}
	return sort.Kind
}

func isLenOfInt(t syntax.Term, kind int) bool { return t.Kind == syntax.Len && kind == api.SortInt }

func isTextRef(t syntax.Term, kind int) bool { return t.Kind == syntax.Ref && kind == api.SortText }

// chains looks for a chain of too many calls. There is one, too, if a chain leads from a protocol to itself, as it can go on for ever.
func (c *checker) chains() {
	ends := map[name]bool{{aProtocol, c.p.Name}: true}
	for range maxCalls + 1 {
		ends = c.called(ends)
	}
	if len(ends) > 0 {
		c.fail(c.p.Name, api.ErrLimit)
	}
}

// called returns the names in the calls of protocols.
func (c *checker) called(callers map[name]bool) map[name]bool {
	l := map[name]bool{}
	for caller := range callers {
		i, ok := c.first[caller]
		if !ok {
			continue
		}
		each(c.all[i].Body, func(x syntax.Item) {
			if x.Kind == syntax.Call {
				l[name{aProtocol, x.Name}] = true
			}
		})
	}
	return l
}
