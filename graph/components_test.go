package graph_test

import (
	"math/rand"
	"slices"
	"testing"

	"farandole/api"
	"farandole/graph"
)

// equalLists reports whether two lists of lists are the same.
func equalLists(a, b [][]int) bool { return slices.EqualFunc(a, b, slices.Equal[[]int]) }

// testComponents tests the components of a graph and the condensed graph.
func testComponents(t *testing.T, g graph.Graph) {
	t.Helper()
	want := components(between(g))
	parts := must(graph.Components(g))
	if !equalLists(parts, want) {
		t.Fatalf("%v: got %v, want %v", g, parts, want)
	}
	same(t, "Condense", must(graph.Condense(g)), condensed(g, want))
}

// P4.1: Components and Condense, of all graphs with at most 4 nodes and of many others.
func TestComponents(t *testing.T) {
	eachSmall(func(g graph.Graph) { testComponents(t, g) })
	eachOf(4, func(g graph.Graph) { testComponents(t, g) })
	for _, g := range graphs() {
		testComponents(t, g)
	}
	random := rand.New(rand.NewSource(46))
	for range 300 {
		testComponents(t, sparse(random, 5+random.Intn(30), 0.8+random.Float64()))
	}
}

// P4.1: the components of some graphs, among them those that lead back late.
func TestComponentExamples(t *testing.T) {
	for i, c := range []struct {
		g     graph.Graph
		parts [][]int
		c     graph.Graph
	}{
		{nil, nil, nil},
		{graph.Graph{nil}, [][]int{{0}}, graph.Graph{nil}},
		{graph.Graph{{0}}, [][]int{{0}}, graph.Graph{nil}},
		{graph.Graph{{1}, {0}}, [][]int{{0, 1}}, graph.Graph{nil}},
		{graph.Graph{{0, 1}, {1}}, [][]int{{0}, {1}}, graph.Graph{{1}, nil}},
		{graph.Graph{{1}, {2}, {1, 3}, nil}, [][]int{{0}, {1, 2}, {3}}, graph.Graph{{1}, {2}, nil}},
		{graph.Graph{{3}, {2}, {1}, {0}}, [][]int{{0, 3}, {1, 2}}, graph.Graph{nil, nil}},
		{graph.Graph{{3}, {2}, {0, 1}, {0}}, [][]int{{0, 3}, {1, 2}}, graph.Graph{nil, {0}}},
		{graph.Graph{{1, 4}, {2}, {3}, {1}, {5}, {0}}, [][]int{{0, 4, 5}, {1, 2, 3}}, graph.Graph{{1}, nil}},
		{graph.Graph{{1}, {2, 4}, {3}, {2}, {5}, {1, 4}}, [][]int{{0}, {1, 4, 5}, {2, 3}}, graph.Graph{{1}, {2}, nil}},
		{graph.Graph{{2, 3}, {0, 2, 3}, {3}, {2}}, [][]int{{0}, {1}, {2, 3}}, graph.Graph{{2}, {0, 2}, nil}},
	} {
		if l, e := graph.Components(c.g); e != api.OK || !equalLists(l, c.parts) {
			t.Errorf("%d: got %v %v, want %v", i, l, e.Name(), c.parts)
		}
		same(t, "Condense", must(graph.Condense(c.g)), c.c)
	}
}

// P4.6: every node is in exactly one component, and with exactly those that it reaches and that reach it.
func TestComponentLaws(t *testing.T) {
	test := func(g graph.Graph) {
		part, d := make(map[int]int), between(g)
		least := -1
		for i, l := range must(graph.Components(g)) {
			if len(l) == 0 || l[0] <= least || !slices.IsSorted(l) {
				t.Fatalf("%v: the component %v", g, l)
			}
			least = l[0]
			for _, n := range l {
				if _, twice := part[n]; twice {
					t.Fatalf("%v: %d is listed twice", g, n)
				}
				part[n] = i
			}
		}
		for n := range g {
			if _, listed := part[n]; !listed || len(part) != len(g) {
				t.Fatalf("%v: %d of the nodes are listed", g, len(part))
			}
			for m := range g {
				if (part[n] == part[m]) != (d[n][m] >= 0 && d[m][n] >= 0) {
					t.Fatalf("%v: %d and %d", g, n, m)
				}
			}
		}
	}
	eachSmall(test)
	for _, g := range graphs() {
		test(g)
	}
}

// P4.6: the condensed graph has a topological order, and no two nodes in a component.
func TestCondensed(t *testing.T) {
	test := func(g graph.Graph) {
		c := must(graph.Condense(g))
		if l, e := graph.Order(c); e != api.OK || !topological(c, l) {
			t.Fatalf("%v: the order of %v: %v %v", g, c, l, e.Name())
		}
		if len(c) != len(must(graph.Components(g))) || len(c) != len(must(graph.Components(c))) {
			t.Fatalf("%v: the components of %v", g, c)
		}
		same(t, "Condense twice", must(graph.Condense(c)), c)
	}
	eachSmall(test)
	for _, g := range append(graphs(), large()...) {
		test(g)
	}
}

// P4.1, P4.6: the greatest number of nodes, on long ways and with all edges.
func TestLargeComponents(t *testing.T) {
	var single [][]int
	all := make([]int, 400)
	for n := range all {
		all[n] = n
		single = append(single, []int{n})
	}
	for i, c := range []struct {
		g    graph.Graph
		want [][]int
	}{
		{chain(400), single}, {must(graph.Back(chain(400))), single}, {make(graph.Graph, 400), single},
		{cycle(400), [][]int{all}}, {must(graph.Back(cycle(400))), [][]int{all}}, {full(400), [][]int{all}},
	} {
		if l := must(graph.Components(c.g)); !equalLists(l, c.want) {
			t.Errorf("%d: %v", i, l)
		}
	}
	same(t, "the chain", must(graph.Condense(chain(400))), chain(400))
	same(t, "the cycle", must(graph.Condense(cycle(400))), graph.Graph{nil})
	for _, g := range large() {
		testComponents(t, g)
	}
}

// testOrder tests what P4.7 promises, and that the order is the least one.
func testOrder(t *testing.T, g graph.Graph) {
	t.Helper()
	possible := true
	for _, part := range must(graph.Components(g)) {
		possible = possible && len(part) == 1 && !hasEdge(g, part[0], part[0])
	}
	l, e := graph.Order(g)
	if !possible {
		if l != nil || e != api.ErrLimit {
			t.Fatalf("%v: got %v %v", g, l, e.Name())
		}
		return
	}
	if e != api.OK || !topological(g, l) {
		t.Fatalf("%v: got %v %v", g, l, e.Name())
	}
}

// P4.7: Order returns a topological order, exactly if all components have one node and no node is its own successor.
func TestOrder(t *testing.T) {
	eachSmall(func(g graph.Graph) { testOrder(t, g) })
	eachOf(4, func(g graph.Graph) { testOrder(t, g) })
	for _, g := range append(graphs(), large()...) {
		testOrder(t, g)
	}
	random := rand.New(rand.NewSource(47))
	for range 200 {
		testOrder(t, acyclic(random, 1+random.Intn(40), 3))
		testOrder(t, sparse(random, 1+random.Intn(6), 0.7))
	}
}

// P4.1: of the topological orders, Order returns the least one.
func TestLeastOrder(t *testing.T) {
	test := func(g graph.Graph) {
		want, ok := leastOrder(g)
		got, e := graph.Order(g)
		if ok != (e == api.OK) || !slices.Equal(got, want) {
			t.Fatalf("%v: got %v %v, want %v", g, got, e.Name(), want)
		}
	}
	eachSmall(test)
	random := rand.New(rand.NewSource(74))
	for range 300 {
		test(acyclic(random, 1+random.Intn(6), 0.5+2*random.Float64()))
	}
}

// P4.1: some least orders, and graphs that have none.
func TestOrderExamples(t *testing.T) {
	for i, c := range []struct {
		g    graph.Graph
		want []int
		e    api.Errno
	}{
		{nil, nil, api.OK},
		{graph.Graph{nil}, []int{0}, api.OK},
		{graph.Graph{{0}}, nil, api.ErrLimit},
		{graph.Graph{nil, nil, nil}, []int{0, 1, 2}, api.OK},
		{graph.Graph{nil, {1}, nil}, nil, api.ErrLimit},
		{graph.Graph{{1}, {0}, nil}, nil, api.ErrLimit},
		{graph.Graph{{1}, {2}, {1, 3}, nil}, nil, api.ErrLimit},
		{graph.Graph{nil, nil, {0}}, []int{1, 2, 0}, api.OK},
		{graph.Graph{{2}, nil, nil}, []int{0, 1, 2}, api.OK},
		{graph.Graph{nil, {0}, nil}, []int{1, 0, 2}, api.OK},
		{graph.Graph{nil, nil, nil, {0}}, []int{1, 2, 3, 0}, api.OK},
		{graph.Graph{nil, {0, 3}, nil, {0}}, []int{1, 2, 3, 0}, api.OK},
		{graph.Graph{nil, {0}, {1}, {2}, {3}}, []int{4, 3, 2, 1, 0}, api.OK},
		{graph.Graph{nil, {4}, {0}, nil, nil}, []int{1, 2, 0, 3, 4}, api.OK},
	} {
		if l, e := graph.Order(c.g); e != c.e || !slices.Equal(l, c.want) {
			t.Errorf("%d: got %v %v, want %v", i, l, e.Name(), c.want)
		}
	}
	last := chain(400)
	last[399] = []int{399}
	if l, e := graph.Order(last); l != nil || e != api.ErrLimit {
		t.Errorf("the last node is its own successor: %v %v", l, e.Name())
	}
	down := must(graph.Order(must(graph.Back(chain(400)))))
	for i, n := range down {
		if n != 399-i {
			t.Fatalf("the reversed chain: %v", down)
		}
	}
}
