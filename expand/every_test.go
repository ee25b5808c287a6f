package expand_test

import (
	"strconv"
	"strings"
	"testing"

	"farandole/api"
	"farandole/syntax"
)

// everyBlock calls a function for all blocks of n items of a few kinds.
func everyBlock(n int, visit func(l []syntax.Item)) {
	if n == 0 {
		visit(nil)
		return
	}
	// The first item has so many items in its blocks.
	for inside := range n {
		everyFirst(inside, func(x syntax.Item) {
			everyBlock(n-1-inside, func(behind []syntax.Item) { visit(append([]syntax.Item{x}, behind...)) })
		})
	}
}

func everyFirst(inside int, visit func(x syntax.Item)) {
	if inside == 0 {
		visit(syntax.Item{Kind: syntax.Send, From: "C", To: []string{"A"}, Name: "m"})
		visit(syntax.Item{Kind: syntax.Again, Name: "c2.L"})
		visit(syntax.Item{Kind: syntax.Call, Name: "Q", To: []string{"B", "A"}})
		visit(syntax.Item{Kind: syntax.Call, Name: "R", To: []string{"C"}})
	}
	everyBlock(inside, func(a []syntax.Item) {
		visit(syntax.Item{Kind: syntax.Loop, Name: "c2.L", Blocks: [][]syntax.Item{a}})
	})
	for i := range inside + 1 {
		everyBlock(i, func(a []syntax.Item) {
			everyBlock(inside-i, func(b []syntax.Item) {
				visit(syntax.Item{Kind: syntax.Choice, From: "A", Blocks: [][]syntax.Item{a, b}})
				visit(syntax.Item{Kind: syntax.Par, Blocks: [][]syntax.Item{a, b}})
			})
		})
	}
}

// numbered returns items in which the calls have the names c1, c2 and so on.
func numbered(l []syntax.Item, calls *int) []syntax.Item {
	var out []syntax.Item
	for _, x := range l {
		if x.Kind == syntax.Call {
			*calls++
			x.As = "c" + strconv.Itoa(*calls)
		}
		var blocks [][]syntax.Item
		for _, b := range x.Blocks {
			blocks = append(blocks, numbered(b, calls))
		}
		x.Blocks = blocks
		out = append(out, x)
	}
	return out
}

// P12.1: all bodies of up to four items, among them calls of two protocols, one of which calls the other.
func TestEveryBody(t *testing.T) {
	called := parsed(t, "protocol Q(A, X) { message m(); par { call R(A) as c1; } and { } loop L { choice at X { X -> A: m; again L; } or { } } } protocol R(B) { message m(x: int 0..1) where m.x < 1; choice at B { } }")
	found := map[api.Errno]int{}
	for n := range 5 {
		everyBlock(n, func(l []syntax.Item) {
			calls := 0
			p := syntax.Protocol{Name: "P", Roles: []string{"B", "C", "A"}, Messages: []syntax.Message{{Name: "m"}, {Name: "c3.m"}}, Body: numbered(l, &calls)}
			_, e := check(t, append([]syntax.Protocol{p}, called...), "P")
			found[e]++
		})
	}
	for _, e := range []api.Errno{api.OK, api.ErrArg, api.ErrPar, api.ErrExist} {
		if found[e] < 50 {
			t.Errorf("only %d bodies with %s", found[e], e.Name())
		}
	}
}

// everyList calls a function for all lists of n of the given texts.
func everyList(n int, texts []string, visit func(l []string)) {
	if n == 0 {
		visit(nil)
		return
	}
	everyList(n-1, texts, func(l []string) {
		for _, s := range texts {
			visit(append(l[:len(l):len(l)], s))
		}
	})
}

// P12.1: calls by all lists of roles, of protocols whose roles have all orders of some names.
func TestEveryCall(t *testing.T) {
	for n := 1; n <= 3; n++ {
		everyList(n, []string{"A", "B", "C"}, func(roles []string) {
			everyList(n, []string{"A", "B", "C", "D"}, func(to []string) {
				q := syntax.Protocol{Name: "Q", Roles: roles, Messages: []syntax.Message{{Name: "m"}}}
				for i, role := range roles {
					q.Body = append(q.Body, syntax.Item{Kind: syntax.Choice, From: role, Blocks: make([][]syntax.Item, 2)})
					if i > 0 {
						q.Body = append(q.Body, syntax.Item{Kind: syntax.Send, From: role, To: roles[:i], Name: "m"})
					}
				}
				p := syntax.Protocol{Name: "P", Roles: []string{"C", "B", "A"}, Body: []syntax.Item{{Kind: syntax.Call, Name: "Q", To: to, As: "A"}}}
				check(t, []syntax.Protocol{p, q}, "P")
			})
		})
	}
}

// P12.1: parallel branches with all sets of roles in their blocks, by all kinds of items.
func TestEveryPar(t *testing.T) {
	found := map[api.Errno]int{}
	everyList(3, []string{"", "A", "B", "C", "AB", "BC", "AC", "ABC"}, func(sets []string) {
		for kind := range 4 {
			par := syntax.Item{Kind: syntax.Par}
			for i, set := range sets {
				par.Blocks = append(par.Blocks, taking(set, kind, strconv.Itoa(i)))
			}
			p := syntax.Protocol{Name: "P", Roles: []string{"A", "B", "C"}, Messages: []syntax.Message{{Name: "m"}}, Body: []syntax.Item{par}}
			_, e := check(t, append(parsed(t, "protocol Q1(A) { } protocol Q2(A, B) { } protocol Q3(A, B, C) { }"), p), "P")
			found[e]++
			want := api.OK
			for _, role := range p.Roles {
				if strings.Count(strings.Join(sets, ""), role) > 1 {
					want = api.ErrPar
				}
			}
			if e != want {
				t.Errorf("%s, want %s, for %q", e.Name(), want.Name(), sets)
			}
		}
	})
	if found[api.OK] < 100 || found[api.ErrPar] < 100 {
		t.Error(found)
	}
}

// taking returns items in which the roles of a set take part.
func taking(set string, kind int, as string) []syntax.Item {
	roles := strings.Split(set, "")
	switch {
	case set == "":
		return []syntax.Item{{Kind: syntax.Loop, Name: "A", Blocks: make([][]syntax.Item, 1)}}
	case kind == 0:
		return []syntax.Item{{Kind: syntax.Call, Name: "Q" + strconv.Itoa(len(roles)), To: roles, As: "c" + as}}
	case kind == 1 && len(roles) > 1:
		return []syntax.Item{{Kind: syntax.Send, From: roles[0], To: roles[1:], Name: "m"}}
	case kind == 2 && len(roles) > 1:
		return []syntax.Item{{Kind: syntax.Loop, Name: "B", Blocks: [][]syntax.Item{{{Kind: syntax.Send, From: roles[1], To: append([]string{roles[0]}, roles[2:]...), Name: "m"}}}}}
	}
	var l []syntax.Item
	for _, role := range roles {
		l = []syntax.Item{{Kind: syntax.Choice, From: role, Blocks: [][]syntax.Item{nil, l}}}
	}
	return l
}
