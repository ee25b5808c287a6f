package graph_test

import (
	"math/rand"
	"slices"
	"testing"

	"farandole/api"
	"farandole/graph"
)

const mark = 123456789

// room returns a copy of a list, with room behind it that is marked.
func room(l []int) []int {
	return append(slices.Clone(l), mark, mark, mark)[:len(l)]
}

// roomy returns a copy of a graph, with marked room behind it and behind its lists.
func roomy(g graph.Graph) graph.Graph {
	var r graph.Graph
	for _, l := range g {
		r = append(r, room(l))
	}
	return append(r, []int{mark}, []int{mark})[:len(g)]
}

// stays tests that the roomy copy of a graph is as it was, with the room behind.
func stays(t *testing.T, r, g graph.Graph) {
	t.Helper()
	for i, l := range g {
		staysList(t, r[i], l)
	}
	for _, l := range r[len(g) : len(g)+2] {
		if len(r) != len(g) || !slices.Equal(l, []int{mark}) {
			t.Fatalf("%v is changed to %v, %v", g, r, l)
		}
	}
}

// staysList tests that the roomy copy of a list is as it was, with the room behind it.
func staysList(t *testing.T, r, l []int) {
	t.Helper()
	if !slices.Equal(r, l) || !slices.Equal(r[:len(l)+3][len(l):], []int{mark, mark, mark}) {
		t.Fatalf("%v is changed to %v", l, r[:len(l)+3])
	}
}

// results are the results of all functions that return lists, as lists of lists.
func results(g graph.Graph, from []int, edges [][2]int) map[string][][]int {
	all := map[string][][]int{}
	put := func(name string, l [][]int, e api.Errno) { all[name+" "+e.Name()] = l }
	list := func(name string, l []int, e api.Errno) { put(name, [][]int{l}, e) }
	graphs := func(name string, g graph.Graph, e api.Errno) { put(name, g, e) }
	l, e := graph.Reach(g, from)
	list("Reach", l, e)
	l, e = graph.Dist(g, from)
	list("Dist", l, e)
	for i := range min(len(from), 4) {
		l, e = graph.Path(g, from[0], from[i])
		list("Path to "+string(rune('0'+i)), l, e)
	}
	l, e = graph.Order(g)
	list("Order", l, e)
	made, e := graph.Make(len(g), edges)
	graphs("Make", made, e)
	made, e = graph.Back(g)
	graphs("Back", made, e)
	made, e = graph.Condense(g)
	graphs("Condense", made, e)
	parts, e := graph.Components(g)
	put("Components", parts, e)
	return all
}

// copied returns a copy of results that shares no memory with them.
func copied(all map[string][][]int) map[string][][]int {
	c := map[string][][]int{}
	for name, l := range all {
		var lists [][]int
		for _, m := range l {
			lists = append(lists, slices.Clone(m))
		}
		c[name] = lists
	}
	return c
}

// overwrite changes all numbers of a list, and those of its capacity.
func overwrite(l []int) {
	l = l[:cap(l)]
	for i := range l {
		l[i] = ^l[i]
	}
}

// overwriteAll changes all lists of a list, and those of its capacity.
func overwriteAll(lists [][]int) {
	for _, l := range lists {
		overwrite(l)
	}
	lists = lists[:cap(lists)]
	for i := range lists {
		lists[i] = []int{mark}
	}
}

// sameResults tests that results are as they were.
func sameResults(t *testing.T, what string, got, want map[string][][]int) {
	t.Helper()
	if len(got) != len(want) {
		t.Fatalf("%s: %d results, not %d", what, len(got), len(want))
	}
	for name, l := range want {
		if !equalLists(got[name], l) {
			t.Fatalf("%s: %s: got %v, want %v", what, name, got[name], l)
		}
	}
}

// eachCall calls f with graphs, valid ones and others, with nodes and with edges.
func eachCall(f func(g graph.Graph, from []int, edges [][2]int)) {
	random := rand.New(rand.NewSource(12))
	for _, g := range append(append(graphs(), wrong()[:12]...), sparse(random, 400, 1.5)) {
		from := random.Perm(len(g))
		edges := edgesOf(g)
		random.Shuffle(len(edges), func(i, k int) { edges[i], edges[k] = edges[k], edges[i] })
		f(g, from, append(edges, edges...))
		f(g, append(from, from...), edges)
		f(g, append(from, len(g)), append(edges, [2]int{0, len(g)}))
	}
}

// roomyEdges returns a copy of a list of edges, with marked room behind it.
func roomyEdges(edges [][2]int) [][2]int {
	return append(slices.Clone(edges), [2]int{mark, mark})[:len(edges)]
}

// staysEdges tests that the roomy copy of a list of edges is as it was, with the room behind it.
func staysEdges(t *testing.T, r, edges [][2]int) {
	t.Helper()
	if !slices.Equal(r, edges) || r[:len(edges)+1][len(edges)] != [2]int{mark, mark} {
		t.Fatalf("%v are changed to %v", edges, r[:len(edges)+1])
	}
}

// P2, P4.1: arguments are not modified, also not in their capacity, and share no memory with results.
func TestArguments(t *testing.T) {
	eachCall(func(g graph.Graph, from []int, edges [][2]int) {
		r, f, x := roomy(g), room(from), roomyEdges(edges)
		got := results(r, f, x)
		stays(t, r, g)
		staysList(t, f, from)
		staysEdges(t, x, edges)
		want := copied(got)
		overwriteAll(r)
		overwrite(f)
		clear(x)
		sameResults(t, "behind a change of the arguments", got, want)
		r, f, x = roomy(g), room(from), roomyEdges(edges)
		for _, lists := range results(r, f, x) {
			overwriteAll(lists)
		}
		stays(t, r, g)
		staysList(t, f, from)
		staysEdges(t, x, edges)
	})
}

// P2: Valid and Equal do not modify their arguments, and these may be the same.
func TestReports(t *testing.T) {
	for _, g := range append(graphs(), wrong()...) {
		r := roomy(g)
		before := graph.Valid(r)
		if !graph.Equal(r, r) || !graph.Equal(r, g) || !graph.Equal(g, r) || graph.Valid(r) != before {
			t.Fatalf("%v and its copy", g)
		}
		stays(t, r, g)
	}
}

// P2: no two results share memory, and no two lists of one result.
func TestResults(t *testing.T) {
	eachCall(func(g graph.Graph, from []int, edges [][2]int) {
		first, again := results(g, from, edges), results(g, from, edges)
		want := copied(again)
		for name, lists := range first {
			for i, l := range lists {
				overwrite(l)
				for k := i + 1; k < len(lists); k++ {
					if !slices.Equal(lists[k], want[name][k]) {
						t.Fatalf("%s of %v: the lists %d and %d share memory", name, g, i, k)
					}
				}
			}
			overwriteAll(lists)
		}
		sameResults(t, "behind a change of other results", again, want)
	})
}

// P2: the lists of a result share no memory with those ahead of them, either.
func TestResultsBackwards(t *testing.T) {
	eachCall(func(g graph.Graph, from []int, edges [][2]int) {
		all := results(g, from, edges)
		want := copied(all)
		for name, lists := range all {
			for i, l := range slices.Backward(lists) {
				overwrite(l)
				for k := range i {
					if !slices.Equal(lists[k], want[name][k]) {
						t.Fatalf("%s of %v: the lists %d and %d share memory", name, g, i, k)
					}
				}
			}
		}
	})
}

// P2: the lists of a graph may be the same memory.
func TestSharedLists(t *testing.T) {
	memory := []int{0, 1, 2, 3, 4, 5}
	shared := graph.Graph{memory[:3], memory[1:4], memory[:3], nil, memory[2:], memory[5:]}
	apart := roomy(shared)
	from := memory[1:3]
	sameResults(t, "shared lists", results(shared, from, nil), results(apart, []int{1, 2}, nil))
	if !slices.Equal(memory, []int{0, 1, 2, 3, 4, 5}) {
		t.Errorf("changed to %v", memory)
	}
}

// P3: the same calls lead to the same results, whatever was called in between.
func TestSameAgain(t *testing.T) {
	var calls []func() map[string][][]int
	var first []map[string][][]int
	eachCall(func(g graph.Graph, from []int, edges [][2]int) {
		call := func() map[string][][]int { return results(g, from, edges) }
		calls, first = append(calls, call), append(first, call())
	})
	for i, call := range slices.Backward(calls) {
		sameResults(t, "the same call", call(), first[i])
	}
}

// P4.1: graphs that are returned are valid, and lists of nodes have only nodes.
func TestReturnedGraphs(t *testing.T) {
	eachCall(func(g graph.Graph, from []int, edges [][2]int) {
		for name, l := range results(g, from, edges) {
			switch name {
			case "Make ok", "Back ok", "Condense ok":
				if !valid(l) || !graph.Valid(l) {
					t.Fatalf("%s of %v: %v", name, g, l)
				}
			case "Dist ok":
				if len(l[0]) != len(g) || slices.ContainsFunc(l[0], func(n int) bool { return n < -1 || n >= len(g) }) {
					t.Fatalf("%s of %v: %v", name, g, l)
				}
			default:
				if slices.ContainsFunc(slices.Concat(l...), func(n int) bool { return n < 0 || n >= len(g) }) {
					t.Fatalf("%s of %v: %v", name, g, l)
				}
			}
		}
	})
}

// graphOf returns the graph that bytes describe: each is a successor, or begins a next node's list.
func graphOf(data []byte) graph.Graph {
	g := graph.Graph{nil}
	for _, b := range data {
		if b >= 128 {
			g = append(g, nil)
			continue
		}
		g[len(g)-1] = append(g[len(g)-1], int(b)-1)
	}
	return g
}

func FuzzGraph(f *testing.F) {
	f.Add([]byte{}, 0, 0)
	f.Add([]byte{2, 255, 3, 255, 2, 4, 255}, 0, 3)
	f.Add([]byte{1, 2, 255, 1}, 1, 0)
	f.Add([]byte{255, 2, 1, 255, 0}, -1, 7)
	f.Fuzz(func(t *testing.T, data []byte, from, to int) {
		g := graphOf(data)
		if graph.Valid(g) != valid(g) {
			t.Fatalf("%v: not %v", g, valid(g))
		}
		l, e := graph.Path(g, from, to)
		if !valid(g) {
			if l != nil || e != api.ErrArg {
				t.Fatalf("%v: got %v %v", g, l, e.Name())
			}
			return
		}
		if isNode := func(n int) bool { return 0 <= n && n < len(g) }; !isNode(from) || !isNode(to) {
			if l != nil || e != api.ErrRange {
				t.Fatalf("%v from %d to %d: got %v %v", g, from, to, l, e.Name())
			}
			return
		}
		testPath(t, g, from, to)
		testDistances(t, g, []int{from, to})
		testOrder(t, g)
		testComponents(t, g)
		same(t, "Back twice", must(graph.Back(must(graph.Back(g)))), g)
		same(t, "Make", must(graph.Make(len(g), edgesOf(g))), g)
	})
}
