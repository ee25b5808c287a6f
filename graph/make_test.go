package graph_test

import (
	"math"
	"math/rand"
	"slices"
	"testing"

	"farandole/api"
	"farandole/graph"
)

// P4.1: a graph is valid if it has at most 400 nodes, and each list is strictly ascending and consists of nodes.
func TestValid(t *testing.T) {
	last := append(make(graph.Graph, 399), []int{399})
	for i, g := range append(append(graphs(), large()...), last, make(graph.Graph, 399), nil, graph.Graph{}) {
		if !graph.Valid(g) {
			t.Errorf("%d: %v is valid", i, g)
		}
	}
	for i, g := range wrong() {
		if graph.Valid(g) {
			t.Errorf("%d: %.100v is not valid", i, g)
		}
	}
	eachSmall(func(g graph.Graph) {
		if !graph.Valid(g) {
			t.Errorf("%v is valid", g)
		}
	})
	if graph.MaxNodes != 400 {
		t.Error("MaxNodes")
	}
}

// P4.1: each list of up to three numbers, as the only one of a graph with two nodes.
func TestValidLists(t *testing.T) {
	lists := [][]int{nil}
	for first := 0; first < len(lists) && len(lists[first]) < 3; first++ {
		for n := -1; n <= 2; n++ {
			lists = append(lists, append(slices.Clone(lists[first]), n))
		}
	}
	for _, l := range lists {
		for _, g := range []graph.Graph{{l, nil}, {nil, l}, {l, {0, 1}}, {{1}, l}} {
			if graph.Valid(g) != valid(g) {
				t.Errorf("%v: not %v", g, valid(g))
			}
		}
	}
	if len(lists) != 85 {
		t.Errorf("%d lists", len(lists))
	}
}

// P4.1: a graph that is not valid is ErrArg, whatever the numbers are.
func TestWrongGraphs(t *testing.T) {
	for i, g := range wrong() {
		for _, n := range []int{0, -1, 1000} {
			if l, e := graph.Reach(g, []int{n}); l != nil || e != api.ErrArg {
				t.Errorf("%d: Reach: %v %v", i, l, e.Name())
			}
			if l, e := graph.Dist(g, []int{n}); l != nil || e != api.ErrArg {
				t.Errorf("%d: Dist: %v %v", i, l, e.Name())
			}
			if l, e := graph.Path(g, n, 0); l != nil || e != api.ErrArg {
				t.Errorf("%d: Path: %v %v", i, l, e.Name())
			}
			if l, e := graph.Path(g, 0, n); l != nil || e != api.ErrArg {
				t.Errorf("%d: Path: %v %v", i, l, e.Name())
			}
		}
		if l, e := graph.Reach(g, nil); l != nil || e != api.ErrArg {
			t.Errorf("%d: Reach: %v %v", i, l, e.Name())
		}
		if l, e := graph.Dist(g, nil); l != nil || e != api.ErrArg {
			t.Errorf("%d: Dist: %v %v", i, l, e.Name())
		}
		if b, e := graph.Back(g); b != nil || e != api.ErrArg {
			t.Errorf("%d: Back: %v %v", i, b, e.Name())
		}
		if l, e := graph.Components(g); l != nil || e != api.ErrArg {
			t.Errorf("%d: Components: %v %v", i, l, e.Name())
		}
		if c, e := graph.Condense(g); c != nil || e != api.ErrArg {
			t.Errorf("%d: Condense: %v %v", i, c, e.Name())
		}
		if l, e := graph.Order(g); l != nil || e != api.ErrArg {
			t.Errorf("%d: Order: %v %v", i, l, e.Name())
		}
	}
}

// outside returns numbers that are no node of a graph with n nodes.
func outside(n int) []int {
	return []int{-1, n, -2, n + 1, 400, -400, 1 << 32, -1 << 32, math.MaxInt, math.MinInt}
}

// P4.1: a number that is no node is ErrRange, at any place.
func TestWrongNumbers(t *testing.T) {
	for _, g := range append(graphs(), chain(400)) {
		for _, n := range outside(len(g)) {
			lists := [][]int{{n}, {n, n}}
			if len(g) > 0 {
				lists = append(lists, []int{0, n}, []int{n, 0}, []int{0, n, len(g) - 1})
			}
			for _, l := range lists {
				if r, e := graph.Reach(g, l); r != nil || e != api.ErrRange {
					t.Errorf("Reach from %v of %d nodes: %v %v", l, len(g), r, e.Name())
				}
				if r, e := graph.Dist(g, l); r != nil || e != api.ErrRange {
					t.Errorf("Dist from %v of %d nodes: %v %v", l, len(g), r, e.Name())
				}
			}
			for _, m := range append(outside(len(g)), 0, len(g)-1) {
				if r, e := graph.Path(g, n, m); r != nil || e != api.ErrRange {
					t.Errorf("Path from %d to %d of %d nodes: %v %v", n, m, len(g), r, e.Name())
				}
				if r, e := graph.Path(g, m, n); r != nil || e != api.ErrRange {
					t.Errorf("Path from %d to %d of %d nodes: %v %v", m, n, len(g), r, e.Name())
				}
			}
		}
	}
}

// edgesOf returns the edges of a graph, as they stand.
func edgesOf(g graph.Graph) [][2]int {
	var edges [][2]int
	for from, l := range g {
		for _, to := range l {
			edges = append(edges, [2]int{from, to})
		}
	}
	return edges
}

// P4.1: Make returns the graph with these edges, in whatever order and however often they are given.
func TestMake(t *testing.T) {
	random := rand.New(rand.NewSource(1))
	for _, g := range append(graphs(), large()...) {
		edges := edgesOf(g)
		same(t, "ascending edges", must(graph.Make(len(g), edges)), g)
		slices.Reverse(edges)
		same(t, "descending edges", must(graph.Make(len(g), edges)), g)
		edges = append(edges, edges...)
		random.Shuffle(len(edges), func(i, k int) { edges[i], edges[k] = edges[k], edges[i] })
		same(t, "edges twice", must(graph.Make(len(g), edges)), g)
	}
	eachSmall(func(g graph.Graph) {
		same(t, "a small graph", must(graph.Make(len(g), edgesOf(g))), g)
	})
	for _, n := range []int{0, 1, 399, 400} {
		same(t, "no edges", must(graph.Make(n, nil)), make(graph.Graph, n))
		same(t, "no edges", must(graph.Make(n, [][2]int{})), make(graph.Graph, n))
	}
}

// P4.1: the greatest number of nodes, with edges at its ends.
func TestMakeEnds(t *testing.T) {
	want := make(graph.Graph, 400)
	want[0], want[399] = []int{0, 399}, []int{0, 399}
	same(t, "the ends", must(graph.Make(400, [][2]int{{399, 399}, {0, 399}, {399, 0}, {0, 0}, {399, 0}})), want)
	same(t, "the chapter's example", must(graph.Make(4, [][2]int{{0, 1}, {1, 2}, {2, 1}, {2, 3}})), graph.Graph{{1}, {2}, {1, 3}, nil})
	many := slices.Repeat([][2]int{{1, 0}, {0, 1}, {1, 0}}, 200000)
	same(t, "many edges", must(graph.Make(2, many)), graph.Graph{{1}, {0}})
}

// P4.1: Make with a number of nodes or an edge that is not possible.
func TestMakeErrors(t *testing.T) {
	for _, n := range []int{-1, 401, -400, 402, 100000, math.MaxInt, math.MinInt} {
		for _, edges := range [][][2]int{nil, {}, {{0, 0}}, {{0, 1}}, {{-1, -1}}, {{n, n}}} {
			if g, e := graph.Make(n, edges); g != nil || e != api.ErrRange {
				t.Errorf("%d nodes, %v: %v %v", n, edges, g, e.Name())
			}
		}
	}
	for _, n := range []int{0, 1, 2, 399, 400} {
		for _, m := range outside(n) {
			for _, edges := range [][][2]int{{{m, m}}, {{0, m}}, {{m, 0}}, {{0, 0}, {0, m}}, {{m, 0}, {0, 0}}, {{0, 0}, {m, 0}, {0, 0}}} {
				if g, e := graph.Make(n, edges); g != nil || e != api.ErrRange {
					t.Errorf("%d nodes, %v: %v %v", n, edges, g, e.Name())
				}
			}
		}
	}
}

// P4.1, P4.5: Back has the edges reversed, and restores the graph when it is called twice.
func TestBack(t *testing.T) {
	test := func(g graph.Graph) {
		back := must(graph.Back(g))
		want := make(graph.Graph, len(g))
		for from, l := range g {
			for _, to := range l {
				want[to] = append(want[to], from)
			}
		}
		same(t, "Back", back, want)
		same(t, "Back twice", must(graph.Back(back)), g)
	}
	eachSmall(test)
	for _, g := range append(graphs(), large()...) {
		test(g)
	}
	same(t, "the chapter's example", must(graph.Back(graph.Graph{{1}, {2}, {1, 3}, nil})), graph.Graph{nil, {0, 2}, {1}, {2}})
}

// P4.5: a node is reachable in the reversed graph from the nodes that reach it.
func TestBackReaches(t *testing.T) {
	test := func(g graph.Graph) {
		back, d := must(graph.Back(g)), between(g)
		for n := range g {
			reached := must(graph.Reach(g, []int{n}))
			for m := range g {
				from := must(graph.Reach(back, []int{m}))
				if slices.Contains(from, n) != slices.Contains(reached, m) || slices.Contains(from, n) != (d[n][m] >= 0) {
					t.Fatalf("%v: from %d to %d", g, n, m)
				}
			}
		}
	}
	eachSmall(test)
	for _, g := range graphs() {
		test(g)
	}
}

// P4.1: Equal reports whether two graphs, valid or not, have the same lists.
func TestEqual(t *testing.T) {
	l := append(append(graphs(), wrong()...),
		graph.Graph{{0, 1}, nil}, graph.Graph{{1, 0}, nil}, graph.Graph{{0, 1, 1}, nil}, graph.Graph{{0, 1}, {}}, graph.Graph{{0}, {1}}, graph.Graph{nil, {0, 1}}, graph.Graph{{0, 1}},
		graph.Graph{{7, -7}}, graph.Graph{{-7, 7}}, graph.Graph{{7}}, graph.Graph{{7}, {-7}}, graph.Graph{nil, {7}, {-7}}, graph.Graph{{7}, nil, {-7}}, graph.Graph{{7}, {-7}, nil})
	for i, a := range l {
		for k, b := range l {
			want := len(a) == len(b)
			for n := 0; want && n < len(a); n++ {
				want = slices.Equal(a[n], b[n])
			}
			if graph.Equal(a, b) != want {
				t.Errorf("%d and %d: not %v", i, k, want)
			}
		}
	}
	eachSmall(func(a graph.Graph) {
		copied := must(graph.Make(len(a), edgesOf(a)))
		if !graph.Equal(a, copied) || graph.Equal(a, append(copied, nil)) || graph.Equal(append(copied, nil), a) {
			t.Errorf("%v and its copy", a)
		}
	})
}

// P4.1: each two of the graphs with two nodes are different.
func TestEqualOfSmall(t *testing.T) {
	eachCode(func(a, b int) {
		if graph.Equal(coded(2, a), coded(2, b)) != (a == b) {
			t.Errorf("%v and %v: not %v", coded(2, a), coded(2, b), a == b)
		}
	})
}

// eachCode calls f with each two numbers of graphs with two nodes.
func eachCode(f func(a, b int)) {
	for a := range 16 {
		for b := range 16 {
			f(a, b)
		}
	}
}

// P4.1: nil and empty lists are equal.
func TestEqualOfEmpty(t *testing.T) {
	if !graph.Equal(nil, graph.Graph{}) || !graph.Equal(graph.Graph{nil, {1}}, graph.Graph{{}, {1}}) || !graph.Equal(graph.Graph{{}}, graph.Graph{nil}) {
		t.Error("nil and empty lists")
	}
	if graph.Equal(nil, graph.Graph{nil}) || graph.Equal(graph.Graph{{}}, nil) || graph.Equal(graph.Graph{nil}, graph.Graph{nil, nil}) {
		t.Error("graphs of other lengths")
	}
}
