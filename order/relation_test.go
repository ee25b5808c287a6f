package order_test

import (
	"math/rand"
	"slices"
	"testing"

	"farandole/order"
)

// P8.2: Before of a valid order is a strict partial order: no event is before itself, and what is before something is before what comes behind.
func TestStrictOrder(t *testing.T) {
	for _, o := range append(medium(), large()...) {
		r := make(relation, o.N)
		for a := range r {
			for b := range o.N {
				r[a] = append(r[a], order.Before(o, a, b))
			}
		}
		for a := range r {
			if r[a][a] {
				t.Fatalf("%v: %d is before itself", o, a)
			}
			for b := range r {
				if r[a][b] && r[b][a] {
					t.Fatalf("%v: %d and %d are before each other", o, a, b)
				}
				for c := range r {
					if r[a][b] && r[b][c] && !r[a][c] {
						t.Fatalf("%v: %d is before %d, and that before %d", o, a, b, c)
					}
				}
			}
		}
		for _, edge := range o.Edges {
			if !r[edge[0]][edge[1]] {
				t.Fatalf("%v: the edge %v", o, edge)
			}
		}
	}
}

// P8.2: two different events are ordered in exactly one way, or concurrent.
func TestConcurrent(t *testing.T) {
	for _, o := range append(medium(), large()...) {
		for a := range o.N {
			for b := range a + 1 {
				relations := 0
				for _, is := range []bool{order.Before(o, a, b), order.Before(o, b, a), order.Concurrent(o, a, b), a == b} {
					if is {
						relations++
					}
				}
				if relations != 1 || order.Concurrent(o, a, b) != order.Concurrent(o, b, a) {
					t.Fatalf("%v: %d and %d", o, a, b)
				}
			}
		}
	}
}

// without returns an order without the edge of an index.
func without(o order.Order, i int) order.Order {
	return order.Order{N: o.N, Edges: slices.Delete(slices.Clone(o.Edges), i, i+1)}
}

// P8.4: the reduction has the same Before, and without any of its edges it would not.
func TestReduction(t *testing.T) {
	for _, o := range append(medium(), large()...) {
		r := reducedOf(t, o)
		if r.N != o.N || !order.Valid(r) {
			t.Fatalf("%v: the reduction %v", o, r)
		}
		for a := range o.N {
			for b := range o.N {
				if order.Before(r, a, b) != order.Before(o, a, b) {
					t.Fatalf("%v: %d and %d in the reduction %v", o, a, b, r)
				}
			}
		}
		for i, edge := range r.Edges {
			if order.Before(without(r, i), edge[0], edge[1]) {
				t.Fatalf("%v: %v is not needed in the reduction %v", o, edge, r)
			}
			if i > 0 && slices.Compare(r.Edges[i-1][:], edge[:]) >= 0 {
				t.Fatalf("%v: %v does not ascend", o, r)
			}
		}
	}
}

// P8.4: the reduction of the reduction is the same; it depends on Before alone.
func TestReducedAgain(t *testing.T) {
	random := rand.New(rand.NewSource(84))
	for _, o := range append(medium(), large()...) {
		r := reducedOf(t, o)
		if again := reducedOf(t, r); !same(again, r) {
			t.Fatalf("%v: %v, then %v", o, r, again)
		}
		more := order.Order{N: o.N, Edges: slices.Clone(r.Edges)}
		for a := range o.N {
			for b := range o.N {
				if order.Before(o, a, b) && random.Intn(2) == 0 {
					more.Edges = append(more.Edges, [2]int{a, b})
				}
			}
		}
		random.Shuffle(len(more.Edges), func(i, k int) { more.Edges[i], more.Edges[k] = more.Edges[k], more.Edges[i] })
		if got := reducedOf(t, more); !same(got, r) {
			t.Fatalf("%v: %v, but with more edges %v", o, r, got)
		}
	}
}

// P8.4: reductions of orders of a known form.
func TestKnownReductions(t *testing.T) {
	for i, c := range []struct{ o, want order.Order }{
		{full(60, 0), chain(upTo(60))}, {full(60, mostEdges), chain(upTo(60))}, {full(2, mostEdges), chain(upTo(2))}, {order.Order{N: 60}, order.Order{N: 60}},
		{levels(30, 30), levels(30, 30)}, {threads(6, 10), threads(6, 10)}, {levels(1, 59), levels(1, 59)},
		{order.Order{N: 4, Edges: [][2]int{{3, 0}, {3, 1}, {1, 0}, {3, 2}, {2, 0}}}, order.Order{N: 4, Edges: [][2]int{{1, 0}, {2, 0}, {3, 1}, {3, 2}}}},
		{order.Order{N: 3, Edges: [][2]int{{0, 2}, {1, 2}, {0, 1}}}, order.Order{N: 3, Edges: [][2]int{{0, 1}, {1, 2}}}},
	} {
		got := reducedOf(t, c.o)
		slices.SortFunc(c.want.Edges, func(a, b [2]int) int { return slices.Compare(a[:], b[:]) })
		if !same(got, c.want) {
			t.Errorf("%d: got %v, want %v", i, got, c.want)
		}
	}
}

// P8.6: the height is N exactly if any two events are ordered.
func TestHeight(t *testing.T) {
	totals := 0
	for _, o := range append(medium(), large()...) {
		h, total := heightOf(t, o), modelOf(o).total()
		if (h == o.N) != total || h > o.N || (h == 0) != (o.N == 0) {
			t.Errorf("%v: %d", o, h)
		}
		if total {
			totals++
		}
	}
	if totals < 10 {
		t.Errorf("only %d total orders", totals)
	}
	for i, c := range []struct {
		o    order.Order
		want int
	}{
		{order.Order{}, 0}, {order.Order{N: 1}, 1}, {order.Order{N: 60}, 1}, {chain(upTo(60)), 60}, {chain(downFrom(60)), 60}, {full(60, 0), 60},
		{levels(30, 30), 2}, {levels(20, 1, 20, 1, 18), 5}, {threads(6, 10), 10}, {threads(30, 2), 2}, {levels(2, 1, 1, 1), 4},
	} {
		if h := heightOf(t, c.o); h != c.want {
			t.Errorf("%d: got %d, want %d", i, h, c.want)
		}
	}
}

// P8.6: no chain is longer than the height, and there is one that long.
func TestChains(t *testing.T) {
	for _, o := range medium() {
		m, longest := modelOf(o), 0
		for events := range 1 << o.N {
			var l []int
			for event := range o.N {
				if events>>event&1 == 1 {
					l = append(l, event)
				}
			}
			if m.chain(l) {
				longest = max(longest, len(l))
			}
		}
		if h := heightOf(t, o); h != longest {
			t.Errorf("%v: got %d, want %d", o, h, longest)
		}
	}
}

// chain reports whether any two events of a list are ordered.
func (m model) chain(l []int) bool {
	for i, a := range l {
		for _, b := range l[:i] {
			if !m.r[a][b] && !m.r[b][a] {
				return false
			}
		}
	}
	return true
}
