package graph_test

import (
	"math/rand"
	"slices"
	"testing"

	"farandole/api"
	"farandole/graph"
)

// sources returns lists of nodes to begin with, unordered ones and with nodes that occur twice.
func sources(g graph.Graph) [][]int {
	lists := [][]int{nil, {}}
	if len(g) == 0 {
		return lists
	}
	random := rand.New(rand.NewSource(7))
	for n := range g {
		other := random.Intn(len(g))
		lists = append(lists, []int{n}, []int{n, n}, []int{n, other}, []int{other, n, random.Intn(len(g)), n})
	}
	return append(lists, random.Perm(len(g)))
}

// eachStart calls f with each graph and with lists of its nodes, for the small ones with all ascending lists.
func eachStart(f func(g graph.Graph, d [][]int, from []int)) {
	eachSmall(func(g graph.Graph) {
		d := between(g)
		subsets(len(g), func(from []int) { f(g, d, from) })
	})
	for _, g := range graphs() {
		d := between(g)
		for _, from := range sources(g) {
			f(g, d, from)
		}
	}
}

// P4.1: Dist has the least distance from one of the nodes, or -1.
func TestDist(t *testing.T) {
	eachStart(func(g graph.Graph, d [][]int, from []int) {
		if got, want := must(graph.Dist(g, from)), distances(d, from); !slices.Equal(got, want) {
			t.Fatalf("%v from %v: got %v, want %v", g, from, got, want)
		}
	})
	d, e := graph.Dist(graph.Graph{{1}, {2}, {1, 3}, nil}, []int{0})
	if e != api.OK || !slices.Equal(d, []int{0, 1, 2, 3}) {
		t.Errorf("the chapter's example: %v %v", d, e.Name())
	}
}

// P4.1: Reach has the nodes that are reachable, in ascending order, also those given.
func TestReach(t *testing.T) {
	eachStart(func(g graph.Graph, d [][]int, from []int) {
		var want []int
		for n, length := range distances(d, from) {
			if length >= 0 {
				want = append(want, n)
			}
		}
		if got := must(graph.Reach(g, from)); !slices.Equal(got, want) {
			t.Fatalf("%v from %v: got %v, want %v", g, from, got, want)
		}
	})
}

// P4.1: nothing is reachable from no nodes.
func TestFromNothing(t *testing.T) {
	for _, g := range append(graphs(), full(400)) {
		for _, from := range [][]int{nil, {}} {
			if l, e := graph.Reach(g, from); e != api.OK || len(l) != 0 {
				t.Errorf("Reach: %v %v", l, e.Name())
			}
			if l, e := graph.Dist(g, from); e != api.OK || !slices.Equal(l, slices.Repeat([]int{-1}, len(g))) {
				t.Errorf("Dist: %v %v", l, e.Name())
			}
		}
	}
}

// contains reports whether all numbers of a part are in a list.
func contains(l, part []int) bool {
	return !slices.ContainsFunc(part, func(n int) bool { return !slices.Contains(l, n) })
}

// P4.2: Reach is monotone and idempotent, and has the given nodes.
func TestReachLaws(t *testing.T) {
	eachStart(func(g graph.Graph, d [][]int, from []int) {
		reached := must(graph.Reach(g, from))
		if !slices.Equal(must(graph.Reach(g, reached)), reached) {
			t.Fatalf("%v from %v: not idempotent", g, from)
		}
		if !contains(reached, from) {
			t.Fatalf("%v from %v: got %v", g, from, reached)
		}
		for n := range g {
			more := must(graph.Reach(g, append(slices.Clone(from), n)))
			if !contains(more, reached) || !contains(more, must(graph.Reach(g, []int{n}))) {
				t.Fatalf("%v from %v and %d: not monotone", g, from, n)
			}
		}
	})
}

// testPath tests what P4.2 and P4.4 promise of the path from one node to another one.
func testPath(t *testing.T, g graph.Graph, from, to int) []int {
	t.Helper()
	length := must(graph.Dist(g, []int{from}))[to]
	reached := slices.Contains(must(graph.Reach(g, []int{from})), to)
	path, e := graph.Path(g, from, to)
	if length < 0 {
		if reached || path != nil || e != api.ErrNone {
			t.Fatalf("%v from %d to %d: got %v %v", g, from, to, path, e.Name())
		}
		return nil
	}
	if !reached || e != api.OK || len(path) != length+1 || path[0] != from || path[length] != to {
		t.Fatalf("%v from %d to %d: got %v %v", g, from, to, path, e.Name())
	}
	for i := range length {
		if !hasEdge(g, path[i], path[i+1]) {
			t.Fatalf("%v from %d to %d: %v is no path", g, from, to, path)
		}
	}
	return path
}

// P4.2, P4.4: Path finds a path of the length that Dist returns, exactly if Reach finds the node.
func TestPath(t *testing.T) {
	eachSmall(func(g graph.Graph) {
		for from := range g {
			for to := range g {
				testPath(t, g, from, to)
			}
		}
	})
	for _, g := range graphs() {
		for from := range g {
			for to := range g {
				testPath(t, g, from, to)
			}
		}
	}
}

// testLeast tests the paths between all nodes of a graph.
func testLeast(t *testing.T, g graph.Graph) {
	t.Helper()
	for from := range g {
		for to := range g {
			if got, want := testPath(t, g, from, to), leastPath(g, from, to); !slices.Equal(got, want) {
				t.Fatalf("%v from %d to %d: got %v, want %v", g, from, to, got, want)
			}
		}
	}
}

// P4.1: of the shortest paths, Path returns the least one.
func TestLeastPath(t *testing.T) {
	eachSmall(func(g graph.Graph) { testLeast(t, g) })
	random := rand.New(rand.NewSource(44))
	for range 60 {
		testLeast(t, layered(random, 4, 2))
		testLeast(t, layered(random, 3, 3))
		testLeast(t, sparse(random, 7, 2))
	}
	for range 4 {
		testLeast(t, layered(random, 4, 3))
	}
}

// P4.1: some least paths, among them those whose later nodes would be greater or less.
func TestPathExamples(t *testing.T) {
	for i, c := range []struct {
		g        graph.Graph
		from, to int
		want     []int
	}{
		{graph.Graph{{0}}, 0, 0, []int{0}},
		{graph.Graph{nil}, 0, 0, []int{0}},
		{graph.Graph{{1}, {0}}, 1, 1, []int{1}},
		{graph.Graph{{0, 1}, {1}}, 0, 1, []int{0, 1}},
		{graph.Graph{{1, 2}, {3}, {3}, nil}, 0, 3, []int{0, 1, 3}},
		{graph.Graph{{1, 2}, {4}, {3}, {5}, {5}, nil}, 0, 5, []int{0, 1, 4, 5}},
		{graph.Graph{{1, 2, 3}, nil, {4}, {4}, nil}, 0, 4, []int{0, 2, 4}},
		{graph.Graph{{1, 4}, {2}, {3}, {5}, {5}, nil}, 0, 5, []int{0, 4, 5}},
		{graph.Graph{nil, {4, 5}, {0}, {0}, {3}, {2}}, 1, 0, []int{1, 4, 3, 0}},
		{graph.Graph{nil, nil, {0}, {1}, {2, 3}, {2, 3}, {4, 5}}, 6, 1, []int{6, 4, 3, 1}},
	} {
		if l, e := graph.Path(c.g, c.from, c.to); e != api.OK || !slices.Equal(l, c.want) {
			t.Errorf("%d: got %v %v, want %v", i, l, e.Name(), c.want)
		}
	}
}

// P4.1, P4.4: ErrRange counts ahead of ErrNone, and there is no path where all edges lead elsewhere.
func TestNoPath(t *testing.T) {
	g := graph.Graph{{1}, nil, {0, 1}}
	for _, c := range []struct {
		from, to int
		want     api.Errno
	}{
		{0, 2, api.ErrNone}, {1, 0, api.ErrNone}, {1, 2, api.ErrNone}, {0, 3, api.ErrRange}, {3, 0, api.ErrRange}, {1, -1, api.ErrRange}, {-1, 2, api.ErrRange}, {3, 3, api.ErrRange}, {-1, -1, api.ErrRange},
	} {
		if l, e := graph.Path(g, c.from, c.to); l != nil || e != c.want {
			t.Errorf("from %d to %d: got %v %v, want %v", c.from, c.to, l, e.Name(), c.want.Name())
		}
	}
}

// testDistances tests what P4.3 promises of the distances.
func testDistances(t *testing.T, g graph.Graph, from []int) {
	t.Helper()
	d, back := must(graph.Dist(g, from)), must(graph.Back(g))
	for n, length := range d {
		if (length == 0) != slices.Contains(from, n) || length < -1 {
			t.Fatalf("%v from %v: the distance %d of %d", g, from, length, n)
		}
		for _, next := range g[n] {
			if length >= 0 && (d[next] < 0 || d[next] > length+1) {
				t.Fatalf("%v from %v: the edge from %d to %d", g, from, n, next)
			}
		}
		if length > 0 && !slices.ContainsFunc(back[n], func(m int) bool { return d[m] == length-1 }) {
			t.Fatalf("%v from %v: %d has no predecessor that is nearer", g, from, n)
		}
	}
}

// P4.3: a distance increases by at most 1 along an edge; a node with the distance d has a predecessor with d - 1.
func TestDistances(t *testing.T) {
	eachStart(func(g graph.Graph, _ [][]int, from []int) { testDistances(t, g, from) })
	for _, g := range large() {
		testDistances(t, g, []int{0})
		testDistances(t, g, []int{399, 200, 7, 399})
		testDistances(t, g, rand.New(rand.NewSource(5)).Perm(400))
	}
}

// P4.1, P4.2, P4.4: the greatest number of nodes.
func TestLargePaths(t *testing.T) {
	d := must(graph.Dist(chain(400), []int{0}))
	for n := range 400 {
		if d[n] != n {
			t.Fatalf("the chain: %v", d)
		}
	}
	if l := must(graph.Path(chain(400), 0, 399)); !slices.Equal(l, d) {
		t.Errorf("the chain: %v", l)
	}
	if l := must(graph.Path(cycle(400), 0, 1)); len(l) != 400 || l[1] != 399 || l[399] != 1 {
		t.Errorf("the cycle: %v", l)
	}
	if l := must(graph.Path(full(400), 399, 0)); !slices.Equal(l, []int{399, 0}) {
		t.Errorf("all edges: %v", l)
	}
	for _, g := range large() {
		for to := range 400 {
			testPath(t, g, to/2, to)
		}
	}
}

// P4.1: a list may be far longer than the graph.
func TestManyStarts(t *testing.T) {
	many := slices.Repeat([]int{3, 1}, 300000)
	if l := must(graph.Dist(chain(5), many)); !slices.Equal(l, []int{-1, 0, 1, 0, 1}) {
		t.Errorf("Dist: %v", l)
	}
	if l := must(graph.Reach(chain(5), many)); !slices.Equal(l, []int{1, 2, 3, 4}) {
		t.Errorf("Reach: %v", l)
	}
	if l, e := graph.Reach(chain(5), append(many, 5)); l != nil || e != api.ErrRange {
		t.Errorf("Reach: %v %v", l, e.Name())
	}
}
