package names_test

import (
	"slices"
	"strconv"
	"testing"

	"farandole/api"
	"farandole/names"
	"farandole/syntax"
)

// everyBlock calls a function for all blocks of n items of loops L and M, agains of them, choices and pars.
func everyBlock(n int, visit func(l []syntax.Item)) {
	if n == 0 {
		visit(nil)
		return
	}
	// The first item has so many items in its blocks.
	for inside := range n {
		everyFirst(inside, func(x syntax.Item) {
			everyBlock(n-1-inside, func(behind []syntax.Item) { visit(append([]syntax.Item{x}, behind...)) })
		})
	}
}

func everyFirst(inside int, visit func(x syntax.Item)) {
	if inside == 0 {
		visit(syntax.Item{Kind: syntax.Again, Name: "L"})
		visit(syntax.Item{Kind: syntax.Again, Name: "M"})
	}
	everyBlock(inside, func(a []syntax.Item) {
		visit(syntax.Item{Kind: syntax.Loop, Name: "L", Blocks: [][]syntax.Item{a}})
		visit(syntax.Item{Kind: syntax.Loop, Name: "M", Blocks: [][]syntax.Item{a}})
	})
	for i := range inside + 1 {
		everyBlock(i, func(a []syntax.Item) {
			everyBlock(inside-i, func(b []syntax.Item) {
				visit(syntax.Item{Kind: syntax.Choice, From: "A", Blocks: [][]syntax.Item{a, b}})
				visit(syntax.Item{Kind: syntax.Par, Blocks: [][]syntax.Item{a, b}})
			})
		})
	}
}

// P11.1: all bodies of up to four items of loops and agains, choices and pars, and some longer ones inside of loops.
func TestEveryLoop(t *testing.T) {
	found := map[api.Errno]int{}
	for n := range 5 {
		everyBlock(n, func(l []syntax.Item) {
			found[check(t, withItems(l...))]++
			if n == 3 {
				inner := syntax.Item{Kind: syntax.Loop, Name: "M", Blocks: [][]syntax.Item{l}}
				found[check(t, withItems(syntax.Item{Kind: syntax.Loop, Name: "L", Blocks: [][]syntax.Item{{inner}}}, inner))]++
			}
		})
	}
	for _, e := range []api.Errno{api.OK, api.ErrExist, api.ErrName, api.ErrState} {
		if found[e] < 100 {
			t.Errorf("only %d bodies with %s", found[e], e.Name())
		}
	}
}

// withItems returns a protocol with a body.
func withItems(l ...syntax.Item) []syntax.Protocol {
	return []syntax.Protocol{{Name: "P", Roles: []string{"A", "B"}, Messages: []syntax.Message{{Name: "m"}}, Body: l}}
}

// P11.1: atoms with all pairs of terms.
func TestEveryAtom(t *testing.T) {
	terms := []syntax.Term{{Kind: syntax.Const}, {Kind: syntax.Const, N: 5}}
	for _, message := range []string{"", "m", "n", "o.n", "o"} {
		for _, field := range []string{"x", "y", "z", "n"} {
			for _, n := range []int{0, 1, -1} {
				terms = append(terms, syntax.Term{Kind: syntax.Ref, Message: message, Field: field, N: n}, syntax.Term{Kind: syntax.Len, Message: message, Field: field, N: n})
			}
		}
	}
	found := map[api.Errno]int{}
	for _, left := range terms {
		for _, right := range terms {
			for _, op := range []string{"<", "<=", "==", ">=", ">"} {
				found[check(t, withAtoms(syntax.Atom{Left: left, Op: op, Right: right}))]++
			}
		}
	}
	if len(found) != 3 || found[api.OK] < 1000 || found[api.ErrName] < 1000 || found[api.ErrType] < 1000 {
		t.Error(found)
	}
}

// withAtoms returns a protocol with a message m of an integer x, a text y and an integer n, and with the message o.n of a text x and an integer y.
func withAtoms(l ...syntax.Atom) []syntax.Protocol {
	whole, text := api.Sort{Kind: api.SortInt, Lo: -1, Hi: 1}, api.Sort{Kind: api.SortText, Hi: 1}
	return []syntax.Protocol{{Name: "P", Roles: []string{"A"}, Messages: []syntax.Message{
		{Name: "o.n", Fields: []api.Field{{Name: "x", Sort: text}, {Name: "y", Sort: whole}}},
		{Name: "m", Fields: []api.Field{{Name: "x", Sort: whole}, {Name: "y", Sort: text}, {Name: "n", Sort: whole}}, Where: l},
		{Name: "o"},
	}}}
}

// P11.1: sorts with the numbers around the limits.
func TestEverySort(t *testing.T) {
	l := []int{-999999, -1001, -1000, -999, -41, -40, -1, 0, 1, 39, 40, 41, 999, 1000, 1001, 999999}
	for _, lo := range l {
		for _, hi := range l {
			want := api.OK
			if lo > hi || lo < -1000 || hi > 1000 {
				want = api.ErrRange
			}
			if e := check(t, withField(api.Sort{Kind: api.SortInt, Lo: lo, Hi: hi})); e != want {
				t.Errorf("int %d..%d: %v", lo, hi, e)
			}
			if want == api.OK && hi > 40 {
				want = api.ErrRange
			}
			if lo < 0 || hi < 0 {
				want = api.ErrArg
			}
			if e := check(t, withField(api.Sort{Kind: api.SortText, Lo: lo, Hi: hi})); e != want {
				t.Errorf("text %d..%d: %v", lo, hi, e)
			}
		}
	}
}

// withField returns a protocol with a field.
func withField(s api.Sort) []syntax.Protocol {
	return []syntax.Protocol{{Name: "P", Roles: []string{"A"}, Messages: []syntax.Message{{Name: "m", Fields: []api.Field{{Name: "x", Sort: s}}}}}}
}

// everyList calls a function for all lists of n of the given texts.
func everyList(n int, texts []string, visit func(l []string)) {
	if n == 0 {
		visit(nil)
		return
	}
	everyList(n-1, texts, func(l []string) {
		for _, s := range texts {
			visit(append(slices.Clone(l), s))
		}
	})
}

// P11.1: the roles of a send, a choice and a call.
func TestEveryRole(t *testing.T) {
	roles := []string{"A", "B", "C", "D", "m"}
	for n := 1; n <= 4; n++ {
		everyList(n, roles, func(l []string) {
			items := []syntax.Item{{Kind: syntax.Choice, From: l[0], Blocks: make([][]syntax.Item, 1)}}
			for _, name := range []string{"m", "n"} {
				if n > 1 {
					items = append(items, syntax.Item{Kind: syntax.Send, From: l[0], To: l[1:], Name: name})
				}
				items = append(items, syntax.Item{Kind: syntax.Call, Name: "Q", To: l, As: name})
			}
			for _, x := range items {
				p := syntax.Protocol{Name: "P", Roles: []string{"A", "B", "C"}, Messages: []syntax.Message{{Name: "m"}}, Body: []syntax.Item{x}}
				check(t, []syntax.Protocol{p})
				check(t, []syntax.Protocol{p, {Name: "Q", Roles: []string{"D", "m"}}})
				check(t, []syntax.Protocol{{Name: "Q", Roles: []string{"D", "m", "x"}}, p})
				for _, roles := range [][]string{nil, {"A", "B", "C", "D", "m"}, {"m", "A", "m"}, {"C", "E", ""}} {
					takes(t, roles, p.Body)
				}
			}
		})
	}
}

// calling returns a protocol that calls others, each in a block of its own.
func calling(name string, called ...string) syntax.Protocol {
	var l []syntax.Item
	for i, s := range called {
		l = []syntax.Item{{Kind: syntax.Call, Name: s, To: []string{"A"}, As: "c" + strconv.Itoa(i)}, {Kind: syntax.Choice, From: "A", Blocks: [][]syntax.Item{l}}}
	}
	return syntax.Protocol{Name: name, Roles: []string{"A"}, Body: l}
}

// P11.1: all sets of calls of three protocols, where the first of several protocols with a name counts.
func TestEveryCall(t *testing.T) {
	var sets [][]string
	for i := range 16 {
		var set []string
		for bit, name := range []string{"P", "Q", "R", "X"} {
			if i>>bit&1 == 1 {
				set = append(set, name)
			}
		}
		sets = append(sets, set)
	}
	found := map[api.Errno]int{}
	for _, a := range sets {
		for _, b := range sets {
			for _, c := range sets {
				found[check(t, []syntax.Protocol{calling("P", a...), calling("Q", b...), calling("R", c...)})]++
			}
			check(t, []syntax.Protocol{calling("P", a...), calling("Q", b...), calling("Q", a...)})
			check(t, []syntax.Protocol{calling("P", a...), calling("P", b...)})
		}
	}
	if len(found) != 3 || found[api.OK] < 20 || found[api.ErrName] < 1000 || found[api.ErrLimit] < 500 {
		t.Error(found)
	}
}

// P11.1: chains of calls of all lengths, from each order of the protocols, with an end that exists or not; and wide ones.
func TestChains(t *testing.T) {
	g := newGrower(3)
	for n := 1; n <= 10; n++ {
		for _, end := range []string{"", "X", "P0", "P" + strconv.Itoa(n-1), "P" + strconv.Itoa(n/2)} {
			var l []syntax.Protocol
			for i := range n {
				next := "P" + strconv.Itoa(i+1)
				if i == n-1 {
					next = end
				}
				l = append(l, calling("P"+strconv.Itoa(i), slices.DeleteFunc([]string{next}, func(s string) bool { return s == "" })...))
			}
			want := problemOf(l)
			if first := names.Check(l); first != want || n > 5 && first != (names.Problem{Protocol: "P0", Name: "P0", Err: api.ErrLimit}) || n <= 5 && end == "" && first.Err != api.OK {
				t.Errorf("%d protocols that end with %q: %v, want %v", n, end, first, want)
			}
			for range 10 {
				g.Shuffle(len(l), func(i, j int) { l[i], l[j] = l[j], l[i] })
				check(t, l)
			}
		}
	}
	for range 1000 {
		var l []syntax.Protocol
		for i := range 10 {
			var called []string
			for j := range i {
				if g.Intn(4) == 0 {
					called = append(called, "P"+strconv.Itoa(j))
				}
			}
			l = append(l, calling("P"+strconv.Itoa(i), called...))
		}
		check(t, l)
		g.Shuffle(len(l), func(i, j int) { l[i], l[j] = l[j], l[i] })
		check(t, l)
	}
}
