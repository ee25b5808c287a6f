package names_test

import (
	"slices"
	"strings"
	"testing"

	"farandole/api"
	"farandole/names"
	"farandole/syntax"
)

// problemsOf returns all problems of valid protocols in the order of the chapter, each one by its definition alone.
func problemsOf(l []syntax.Protocol) []names.Problem {
	var out []names.Problem
	for i, p := range l {
		m := &model{all: l, p: p}
		m.report(p.Name, api.ErrExist, slices.ContainsFunc(l[:i], func(q syntax.Protocol) bool { return q.Name == p.Name }))
		m.declarations()
		m.atoms()
		places := placesOf(p.Body, nil)
		for at, x := range places {
			m.item(x, places[:at])
		}
		m.report(p.Name, api.ErrLimit, m.reaches(p.Name) || m.chain(p.Name, 5))
		out = append(out, m.problems...)
	}
	return out
}

// problemOf returns what Check has to return.
func problemOf(l []syntax.Protocol) names.Problem {
	if !syntax.Valid(l) {
		return names.Problem{Err: api.ErrArg}
	}
	return append(problemsOf(l), names.Problem{})[0]
}

// model collects the problems of a protocol.
type model struct {
	all      []syntax.Protocol
	p        syntax.Protocol
	problems []names.Problem
}

func (m *model) report(name string, e api.Errno, is bool) {
	if is {
		m.problems = append(m.problems, names.Problem{Protocol: m.p.Name, Name: name, Err: e})
	}
}

func (m *model) declarations() {
	for i, role := range m.p.Roles {
		m.report(role, api.ErrExist, slices.Contains(m.p.Roles[:i], role))
	}
	for i, x := range m.p.Messages {
		m.report(x.Name, api.ErrExist, slices.ContainsFunc(m.p.Messages[:i], func(y syntax.Message) bool { return y.Name == x.Name }))
		for j, f := range x.Fields {
			m.report(f.Name, api.ErrExist, slices.ContainsFunc(x.Fields[:j], func(g api.Field) bool { return g.Name == f.Name }))
			least := map[int]int{api.SortInt: -1000, api.SortText: 0}[f.Sort.Kind]
			greatest := map[int]int{api.SortInt: 1000, api.SortText: 40}[f.Sort.Kind]
			m.report(f.Name, api.ErrRange, f.Sort.Lo > f.Sort.Hi || f.Sort.Lo < least || f.Sort.Lo > greatest || f.Sort.Hi < least || f.Sort.Hi > greatest)
		}
	}
}

func (m *model) atoms() {
	for _, x := range m.p.Messages {
		for _, a := range x.Where {
			left, right := m.meant(x, a.Left), m.meant(x, a.Right)
			m.report(x.Name, api.ErrName, left == "nothing" || right == "nothing")
			m.report(x.Name, api.ErrType, left == "len of int" || right == "len of int")
			one, both := left == "text" || right == "text", left == "text" && right == "text"
			m.report(x.Name, api.ErrType, one && !(a.Op == "==" && both && a.Left.N == 0 && a.Right.N == 0))
		}
	}
}

// meant tells in words what a term of a message means.
func (m *model) meant(x syntax.Message, t syntax.Term) string {
	if t.Kind == syntax.Const {
		return "number"
	}
	if t.Message == "" {
		t.Message = x.Name
	}
	for _, y := range m.p.Messages {
		for _, f := range y.Fields {
			if y.Name == t.Message && f.Name == t.Field {
				return map[int]string{syntax.Ref: "", syntax.Len: "len of "}[t.Kind] + map[int]string{api.SortInt: "int", api.SortText: "text"}[f.Sort.Kind]
			}
		}
	}
	return "nothing"
}

// place is an item with the places of those around it, the outermost one first.
type place struct {
	syntax.Item
	last   bool // in its block
	around []place
}

// placesOf returns the places of items and of everything in their blocks, in the order of the source.
func placesOf(l []syntax.Item, around []place) []place {
	var out []place
	for i, x := range l {
		at := place{x, i+1 == len(l), around}
		out = append(out, at)
		for _, b := range x.Blocks {
			out = append(out, placesOf(b, append(slices.Clone(around), at))...)
		}
	}
	return out
}

func (m *model) item(x place, ahead []place) {
	switch x.Kind {
	case syntax.Send:
		m.roles(append([]string{x.From}, x.To...))
		m.report(x.Name, api.ErrName, !slices.ContainsFunc(m.p.Messages, func(y syntax.Message) bool { return y.Name == x.Name }))
	case syntax.Choice:
		m.report(x.From, api.ErrRole, !slices.Contains(m.p.Roles, x.From))
	case syntax.Loop:
		m.report(x.Name, api.ErrExist, slices.ContainsFunc(x.around, isLoop(x.Name)))
	case syntax.Again:
		at := slices.IndexFunc(x.around, isLoop(x.Name))
		inside := x.around[at+1:]
		m.report(x.Name, api.ErrName, at < 0 || slices.ContainsFunc(inside, func(y place) bool { return y.Kind == syntax.Par }))
		m.report(x.Name, api.ErrState, !x.last || slices.ContainsFunc(inside, func(y place) bool { return !y.last }))
	case syntax.Call:
		at := m.protocol(x.Name)
		m.report(x.Name, api.ErrName, at < 0)
		m.report(x.Name, api.ErrArg, at >= 0 && len(m.all[at].Roles) != len(x.To))
		m.roles(x.To)
		m.report(x.As, api.ErrExist, slices.ContainsFunc(ahead, func(y place) bool { return y.Kind == syntax.Call && y.As == x.As }))
	}
}

func isLoop(name string) func(x place) bool {
	return func(x place) bool { return x.Kind == syntax.Loop && x.Name == name }
}

func (m *model) roles(l []string) {
	for i, role := range l {
		m.report(role, api.ErrRole, !slices.Contains(m.p.Roles, role) || slices.Contains(l[:i], role))
	}
}

// protocol returns the index of the first protocol with a name, or -1.
func (m *model) protocol(name string) int {
	return slices.IndexFunc(m.all, func(p syntax.Protocol) bool { return p.Name == name })
}

// calls returns the names in the calls of the first protocol with a name, each once.
func (m *model) calls(name string) []string {
	var l []string
	if at := m.protocol(name); at >= 0 {
		for _, x := range placesOf(m.all[at].Body, nil) {
			if x.Kind == syntax.Call && !slices.Contains(l, x.Name) {
				l = append(l, x.Name)
			}
		}
	}
	return l
}

// chain reports whether there is a chain of n calls from a protocol.
func (m *model) chain(name string, n int) bool {
	return n == 0 || slices.ContainsFunc(m.calls(name), func(called string) bool { return m.chain(called, n-1) })
}

// reaches reports whether a chain of calls leads from a protocol to itself.
func (m *model) reaches(name string) bool {
	reached := m.calls(name)
	for i := 0; i < len(reached); i++ {
		for _, called := range m.calls(reached[i]) {
			if !slices.Contains(reached, called) {
				reached = append(reached, called)
			}
		}
	}
	return slices.Contains(reached, name)
}

// check compares Check with the model, and returns the error.
func check(t *testing.T, l []syntax.Protocol) api.Errno {
	t.Helper()
	got, want := names.Check(l), problemOf(l)
	if got != want {
		t.Fatalf("%v, want %v, for\n%.3000s", got, want, dump(l))
	}
	return got.Err
}

// takesOf returns what Takes has to return for items that do not contain themselves.
func takesOf(roles []string, items []syntax.Item) []string {
	var part []string
	for _, x := range placesOf(items, nil) {
		switch x.Kind {
		case syntax.Send:
			part = append(append(part, x.From), x.To...)
		case syntax.Choice:
			part = append(part, x.From)
		case syntax.Call:
			part = append(part, x.To...)
		}
	}
	return slices.DeleteFunc(slices.Clone(roles), func(role string) bool { return !slices.Contains(part, role) })
}

// takes compares Takes with the model.
func takes(t *testing.T, roles []string, items []syntax.Item) {
	t.Helper()
	if got, want := names.Takes(roles, items), takesOf(roles, items); !slices.Equal(got, want) {
		t.Fatalf("%q, want %q, of %q for\n%.3000s", got, want, roles, dump(items))
	}
}

// problem tests what Check returns for a source that can be parsed.
func problem(t *testing.T, source, where, name string, e api.Errno) {
	t.Helper()
	l := parsed(t, source)
	want := names.Problem{Protocol: where, Name: name, Err: e}
	if got := names.Check(l); got != want {
		t.Errorf("%v, want %v, for %s", got, want, source)
	}
	if problemOf(l) != want {
		t.Errorf("the model has %v, not %v, for %s", problemOf(l), want, source)
	}
}

// parsed returns the protocols of a source.
func parsed(t *testing.T, source string) []syntax.Protocol {
	t.Helper()
	l, at, e := syntax.Parse(source)
	if e != api.OK {
		t.Fatalf("%v at %d: %s", e, at, strings.TrimSpace(source[at:]))
	}
	return l
}
