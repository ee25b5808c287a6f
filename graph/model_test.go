package graph_test

import (
	"math"
	"math/rand"
	"slices"
	"testing"

	"farandole/api"
	"farandole/graph"
)

// must returns a result that comes without an error.
func must[T any](result T, e api.Errno) T {
	if e != api.OK {
		panic("an error: " + e.Name())
	}
	return result
}

// hasEdge reports whether an edge is in a graph.
func hasEdge(g graph.Graph, from, to int) bool { return slices.Contains(g[from], to) }

// valid reports whether a graph is valid, by the definition.
func valid(g graph.Graph) bool {
	for _, l := range g {
		for i, n := range l {
			if n < 0 || n >= len(g) {
				return false
			}
			for _, m := range l[:i] {
				if m >= n {
					return false
				}
			}
		}
	}
	return len(g) <= 400
}

// same tests that a returned graph is valid and has these lists.
func same(t *testing.T, what string, g, want graph.Graph) {
	t.Helper()
	if !valid(g) {
		t.Fatalf("%s: not valid: %v", what, g)
	}
	if !slices.EqualFunc(g, want, slices.Equal[[]int]) {
		t.Fatalf("%s: got %v, want %v", what, g, want)
	}
}

// coded returns the graph with n nodes whose edges are the bits of a number.
func coded(n, code int) graph.Graph {
	g := make(graph.Graph, n)
	for i := range n * n {
		if code>>i&1 == 1 {
			g[i/n] = append(g[i/n], i%n)
		}
	}
	return g
}

// eachSmall calls f with each graph that has at most 3 nodes.
func eachSmall(f func(g graph.Graph)) {
	for n := range 4 {
		eachOf(n, f)
	}
}

// eachOf calls f with each graph that has n nodes.
func eachOf(n int, f func(g graph.Graph)) {
	for code := range 1 << (n * n) {
		f(coded(n, code))
	}
}

// sparse returns a graph with n nodes, and with edges as a random source has them: about so many for each node.
func sparse(random *rand.Rand, n int, each float64) graph.Graph {
	g := make(graph.Graph, n)
	for from := range g {
		for to := range g {
			if random.Float64()*float64(n) < each {
				g[from] = append(g[from], to)
			}
		}
	}
	return g
}

// layered returns a graph of some layers of some nodes, in which the layers' nodes are mixed, and most edges lead from a layer to the next one. It has many paths of the same length.
func layered(random *rand.Rand, layers, width int) graph.Graph {
	n := layers * width
	at := random.Perm(n)
	g := make(graph.Graph, n)
	for from := range g {
		for to := range g {
			next := from/width+1 == to/width
			if next && random.Intn(4) > 0 || random.Intn(60) == 0 {
				g[at[from]] = append(g[at[from]], at[to])
			}
		}
	}
	for _, l := range g {
		slices.Sort(l)
	}
	return g
}

// acyclic returns a graph without cycles whose nodes are mixed.
func acyclic(random *rand.Rand, n int, each float64) graph.Graph {
	at := random.Perm(n)
	g := make(graph.Graph, n)
	for from := range g {
		for to := from + 1; to < n; to++ {
			if random.Float64()*float64(n) < each {
				g[at[from]] = append(g[at[from]], at[to])
			}
		}
	}
	for _, l := range g {
		slices.Sort(l)
	}
	return g
}

// chain returns the graph in which each node but the last one has the next one as a successor.
func chain(n int) graph.Graph {
	g := make(graph.Graph, n)
	for i := range n - 1 {
		g[i] = []int{i + 1}
	}
	return g
}

// cycle returns the graph in which each node has the one before it as a successor, and node 0 the last one.
func cycle(n int) graph.Graph {
	g := make(graph.Graph, n)
	for i := range g {
		g[i] = []int{(i + n - 1) % n}
	}
	return g
}

// full returns the graph with all edges.
func full(n int) graph.Graph {
	g := make(graph.Graph, n)
	for from := range g {
		for to := range g {
			g[from] = append(g[from], to)
		}
	}
	return g
}

// graphs returns valid graphs of many shapes.
func graphs() []graph.Graph {
	random := rand.New(rand.NewSource(4))
	l := []graph.Graph{
		nil, {}, {nil}, {{}}, {{0}}, {nil, nil}, {{1}, nil}, {{1}, {0}}, {{0, 1}, {1}}, {{1}, {2}, {1, 3}, nil},
		{{1, 2}, {3}, {3}, nil}, {{1, 2}, nil, nil, {1, 2}}, chain(20), cycle(20), full(12),
	}
	for _, each := range []float64{0.5, 1, 1.2, 2, 4, 8} {
		for range 4 {
			l = append(l, sparse(random, 1+random.Intn(24), each), acyclic(random, 1+random.Intn(24), each))
		}
	}
	for range 10 {
		l = append(l, layered(random, 2+random.Intn(5), 1+random.Intn(4)))
	}
	return l
}

// large returns graphs with the greatest number of nodes.
func large() []graph.Graph {
	random := rand.New(rand.NewSource(400))
	return []graph.Graph{
		make(graph.Graph, 400), chain(400), cycle(400), full(400),
		sparse(random, 400, 1.1), sparse(random, 400, 2), acyclic(random, 400, 3), layered(random, 20, 20),
	}
}

// wrong returns graphs that are not valid.
func wrong() []graph.Graph {
	behind := append(make(graph.Graph, 399), []int{400})
	return []graph.Graph{
		{{1}}, {{-1}}, {{0, 0}}, {{1, 0}, nil}, {nil, {2}}, {nil, {0, 2}}, {nil, {-1, 0}}, {{0, 1, 1}, nil}, {{0, 2, 1}, nil, nil},
		{nil, nil, {2, 1}}, {{math.MaxInt}}, {{math.MinInt}}, {{0, math.MinInt}}, {{1, 2, 3, 4}, {5}, nil, nil, nil},
		behind, make(graph.Graph, 401), chain(401), full(401), make(graph.Graph, 100000), {make([]int, 100000)},
	}
}

// between returns the length of a shortest path between any two nodes, or -1 (by the way of Floyd and Warshall).
func between(g graph.Graph) [][]int {
	d := make([][]int, len(g))
	for i := range d {
		d[i] = slices.Repeat([]int{-1}, len(g))
		for _, k := range g[i] {
			d[i][k] = 1
		}
		d[i][i] = 0
	}
	for via := range d {
		for i := range d {
			for k := range d {
				if d[i][via] < 0 || d[via][k] < 0 {
					continue
				}
				if sum := d[i][via] + d[via][k]; d[i][k] < 0 || sum < d[i][k] {
					d[i][k] = sum
				}
			}
		}
	}
	return d
}

// distances returns the least of the distances from some nodes, for each node.
func distances(d [][]int, from []int) []int {
	l := slices.Repeat([]int{-1}, len(d))
	for k := range l {
		for _, i := range from {
			if d[i][k] >= 0 && (l[k] < 0 || d[i][k] < l[k]) {
				l[k] = d[i][k]
			}
		}
	}
	return l
}

// leastPath returns the least shortest one of all paths that do not come to a node twice, or nil.
func leastPath(g graph.Graph, from, to int) []int {
	var best []int
	on := make([]bool, len(g))
	var search func(path []int)
	search = func(path []int) {
		n := path[len(path)-1]
		if n == to {
			if best == nil || len(path) < len(best) || len(path) == len(best) && slices.Compare(path, best) < 0 {
				best = slices.Clone(path)
			}
			return
		}
		on[n] = true
		for _, next := range g[n] {
			if !on[next] {
				search(append(path, next))
			}
		}
		on[n] = false
	}
	search([]int{from})
	return best
}

// components returns the components, by the definition.
func components(d [][]int) [][]int {
	var parts [][]int
	for n := range d {
		var part []int
		for m := range d {
			if d[n][m] >= 0 && d[m][n] >= 0 {
				part = append(part, m)
			}
		}
		if part[0] == n {
			parts = append(parts, part)
		}
	}
	return parts
}

// condensed returns the graph of the components, by the definition.
func condensed(g graph.Graph, parts [][]int) graph.Graph {
	c := make(graph.Graph, len(parts))
	for i, from := range parts {
		for k, to := range parts {
			leads := false
			for _, n := range from {
				for _, m := range to {
					leads = leads || hasEdge(g, n, m)
				}
			}
			if i != k && leads {
				c[i] = append(c[i], k)
			}
		}
	}
	return c
}

// topological reports whether a list has all nodes, each one once and ahead of its successors.
func topological(g graph.Graph, order []int) bool {
	at := slices.Repeat([]int{-1}, len(g))
	for i, n := range order {
		if n < 0 || n >= len(g) || at[n] >= 0 {
			return false
		}
		at[n] = i
	}
	for n, l := range g {
		for _, next := range l {
			if at[n] >= at[next] {
				return false
			}
		}
	}
	return len(order) == len(g)
}

// leastOrder returns the first one of all lists of all nodes that is a topological order, or nil. The lists are tried in their order, and those that begin as none can are left out.
func leastOrder(g graph.Graph) (order []int, ok bool) {
	var search func(order []int) ([]int, bool)
	search = func(order []int) ([]int, bool) {
		if len(order) == len(g) {
			return order, topological(g, order)
		}
		for n := range g {
			if slices.Contains(order, n) || slices.ContainsFunc(g[n], func(m int) bool { return m == n || slices.Contains(order, m) }) {
				continue
			}
			if l, ok := search(append(slices.Clone(order), n)); ok {
				return l, true
			}
		}
		return nil, false
	}
	return search(nil)
}

// subsets calls f with each ascending list of some of n nodes.
func subsets(n int, f func(l []int)) {
	for code := range 1 << n {
		var l []int
		for i := range n {
			if code>>i&1 == 1 {
				l = append(l, i)
			}
		}
		f(l)
	}
}
