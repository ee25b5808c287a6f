package expand_test

import (
	"fmt"
	"slices"
	"strings"
	"testing"

	"farandole/api"
	"farandole/expand"
	"farandole/names"
	"farandole/syntax"
)

// expansionOf returns what Expand has to return, by the definitions: from the protocol down to what it calls.
func expansionOf(l []syntax.Protocol, name string) (syntax.Protocol, api.Errno) {
	if names.Check(l) != (names.Problem{}) {
		return syntax.Protocol{}, api.ErrArg
	}
	at := slices.IndexFunc(l, func(p syntax.Protocol) bool { return p.Name == name })
	if at < 0 {
		return syntax.Protocol{}, api.ErrNone
	}
	if slices.ContainsFunc(reachedFrom(l, name), func(p syntax.Protocol) bool { return sharesRole(p.Roles, p.Body) }) {
		return syntax.Protocol{}, api.ErrPar
	}
	p := l[at]
	own := map[string]string{}
	for _, role := range p.Roles {
		own[role] = role
	}
	out := syntax.Protocol{Name: p.Name, Roles: p.Roles, Messages: messagesOf(l, p, ""), Body: itemsOf(l, p.Body, own, "")}
	if !syntax.Valid([]syntax.Protocol{out}) {
		return syntax.Protocol{}, api.ErrLimit
	}
	if sameMessages(out) || sameLoops(out.Body, nil) {
		return syntax.Protocol{}, api.ErrExist
	}
	return out, api.OK
}

// named returns the protocol with a name.
func named(l []syntax.Protocol, name string) syntax.Protocol {
	return l[slices.IndexFunc(l, func(p syntax.Protocol) bool { return p.Name == name })]
}

// callsIn returns the calls in items, in the order of the source.
func callsIn(l []syntax.Item) []syntax.Item {
	return slices.DeleteFunc(everything(l), func(x syntax.Item) bool { return x.Kind != syntax.Call })
}

// everything returns items and those in their blocks, in the order of the source.
func everything(l []syntax.Item) []syntax.Item {
	var out []syntax.Item
	var visit func(l []syntax.Item)
	visit = func(l []syntax.Item) {
		for _, x := range l {
			out = append(out, x)
			for _, b := range x.Blocks {
				visit(b)
			}
		}
	}
	visit(l)
	return out
}

// reachedFrom returns a protocol and those that it calls, also over others.
func reachedFrom(l []syntax.Protocol, name string) []syntax.Protocol {
	out := []syntax.Protocol{named(l, name)}
	for i := 0; i < len(out); i++ {
		for _, call := range callsIn(out[i].Body) {
			if !slices.ContainsFunc(out, func(p syntax.Protocol) bool { return p.Name == call.Name }) {
				out = append(out, named(l, call.Name))
			}
		}
	}
	return out
}

// sharesRole reports whether, in a Par, there are two blocks and a role that takes part in both.
func sharesRole(roles []string, l []syntax.Item) bool {
	for _, x := range everything(l) {
		for i := range x.Blocks {
			for _, other := range x.Blocks[:i] {
				for _, role := range roles {
					if x.Kind == syntax.Par && takesPart(role, x.Blocks[i]) && takesPart(role, other) {
						return true
					}
				}
			}
		}
	}
	return false
}

func takesPart(role string, l []syntax.Item) bool {
	return slices.ContainsFunc(everything(l), func(x syntax.Item) bool {
		switch x.Kind {
		case syntax.Send:
			return x.From == role || slices.Contains(x.To, role)
		case syntax.Choice:
			return x.From == role
		case syntax.Call:
			return slices.Contains(x.To, role)
		}
		return false
	})
}

// messagesOf returns the messages of a protocol that is called by a chain of calls with these names.
func messagesOf(l []syntax.Protocol, p syntax.Protocol, chain string) []syntax.Message {
	var out []syntax.Message
	for _, m := range p.Messages {
		m.Name = chain + m.Name
		m.Where = slices.Clone(m.Where)
		for i := range m.Where {
			for _, term := range []*syntax.Term{&m.Where[i].Left, &m.Where[i].Right} {
				if term.Message != "" {
					term.Message = chain + term.Message
				}
			}
		}
		out = append(out, m)
	}
	for _, call := range callsIn(p.Body) {
		out = append(out, messagesOf(l, named(l, call.Name), chain+call.As+".")...)
	}
	return out
}

// itemsOf returns items of a protocol that is called by a chain of calls, as its roles are named ahead of all of them.
func itemsOf(l []syntax.Protocol, items []syntax.Item, roles map[string]string, chain string) []syntax.Item {
	var out []syntax.Item
	for _, x := range items {
		var blocks [][]syntax.Item
		for _, b := range x.Blocks {
			blocks = append(blocks, itemsOf(l, b, roles, chain))
		}
		var to []string
		for _, role := range x.To {
			to = append(to, roles[role])
		}
		switch x.Kind {
		case syntax.Send:
			out = append(out, syntax.Item{Kind: syntax.Send, From: roles[x.From], To: to, Name: chain + x.Name})
		case syntax.Choice:
			out = append(out, syntax.Item{Kind: syntax.Choice, From: roles[x.From], Ticks: x.Ticks, Blocks: blocks})
		case syntax.Loop:
			out = append(out, syntax.Item{Kind: syntax.Loop, Name: chain + x.Name, Blocks: blocks})
		case syntax.Again:
			out = append(out, syntax.Item{Kind: syntax.Again, Name: chain + x.Name})
		case syntax.Par:
			out = append(out, slices.Concat(blocks...)...)
		case syntax.Call:
			called := named(l, x.Name)
			inside := map[string]string{}
			for i, role := range called.Roles {
				inside[role] = to[i]
			}
			out = append(out, itemsOf(l, called.Body, inside, chain+x.As+".")...)
		}
	}
	return out
}

func sameMessages(p syntax.Protocol) bool {
	met := map[string]bool{}
	for _, m := range p.Messages {
		met[m.Name] = true
	}
	return len(met) < len(p.Messages)
}

// sameLoops reports whether a loop has the path of one around it.
func sameLoops(l []syntax.Item, around []string) bool {
	for _, x := range l {
		inside := around
		if x.Kind == syntax.Loop {
			inside = append(slices.Clone(around), x.Name)
		}
		if x.Kind == syntax.Loop && slices.Contains(around, x.Name) || slices.ContainsFunc(x.Blocks, func(b []syntax.Item) bool { return sameLoops(b, inside) }) {
			return true
		}
	}
	return false
}

// dump writes everything in protocols or items; nil and empty lists are equal.
func dump(x any) string { return fmt.Sprintf("%+v", x) }

// check compares Expand with the model and with P12.2, and returns the result.
func check(t *testing.T, l []syntax.Protocol, name string) (syntax.Protocol, api.Errno) {
	t.Helper()
	got, e := expand.Expand(l, name)
	want, wantE := expansionOf(l, name)
	if e != wantE || dump(got) != dump(want) {
		t.Fatalf("%s and %s, want %s and %s, for %q in\n%.3000s", e.Name(), dump(got), wantE.Name(), dump(want), name, dump(l))
	}
	if e == api.OK {
		isPlain(t, got)
	}
	return got, e
}

// isPlain tests P12.2 for an expansion.
func isPlain(t *testing.T, p syntax.Protocol) {
	t.Helper()
	alone := []syntax.Protocol{p}
	if problem := names.Check(alone); problem != (names.Problem{}) || !syntax.Valid(alone) {
		t.Fatalf("the expansion has the problem %v: %s", problem, dump(p))
	}
	for _, x := range everything(p.Body) {
		if x.Kind == syntax.Call || x.Kind == syntax.Par {
			t.Fatalf("the expansion has a call or parallel branches: %s", dump(p))
		}
	}
}

// parsed returns the protocols of a source.
func parsed(t *testing.T, source string) []syntax.Protocol {
	t.Helper()
	l, at, e := syntax.Parse(source)
	if e != api.OK {
		t.Fatalf("%s at %d: %.300s", e.Name(), at, strings.TrimSpace(source[at:]))
	}
	return l
}

// expands tests that the first protocol of a source has an expansion with a source, and the same as by the model.
func expands(t *testing.T, source, want string) {
	t.Helper()
	l := parsed(t, source)
	got, e := check(t, l, l[0].Name)
	if e != api.OK || !syntax.Equal([]syntax.Protocol{got}, parsed(t, want)) {
		printed, _ := syntax.Print([]syntax.Protocol{got})
		t.Errorf("%s and %s\nwant %s\nfor %s", e.Name(), printed, want, source)
	}
}

// fails tests that the expansion of the first protocol of a source leads to an error, also by the model.
func fails(t *testing.T, source string, want api.Errno) {
	t.Helper()
	l := parsed(t, source)
	if _, e := check(t, l, l[0].Name); e != want {
		t.Errorf("%s, want %s, for %s", e.Name(), want.Name(), source)
	}
}
