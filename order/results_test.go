package order_test

import (
	"math"
	"math/rand"
	"slices"
	"testing"

	"farandole/api"
	"farandole/order"
)

// P8.1: with 3 events and the edge from 2 to 0, the least linear extension is 1, 2, 0; there are 3 of them.
func TestExample(t *testing.T) {
	o := order.Order{N: 3, Edges: [][2]int{{2, 0}}}
	if l := linearOf(t, o); !slices.Equal(l, []int{1, 2, 0}) {
		t.Errorf("Linear: %v", l)
	}
	for most, want := range map[int]int{1: 1, 2: 2, 3: 3, 4: 3, 1000: 3} {
		if n := countOf(t, o, most); n != want {
			t.Errorf("Extensions with the limit %d: %d", most, n)
		}
	}
	if !order.Before(o, 2, 0) || order.Before(o, 0, 2) || order.Before(o, 1, 0) || !order.Concurrent(o, 1, 0) || order.Concurrent(o, 0, 2) || order.Concurrent(o, 2, 0) {
		t.Error("Before or Concurrent")
	}
	for _, l := range [][]int{{1, 2, 0}, {2, 0, 1}, {2, 1, 0}} {
		if !order.IsLinear(o, l) {
			t.Errorf("%v is a linear extension", l)
		}
	}
	for _, l := range [][]int{nil, {2, 0}, {0, 1, 2}, {0, 2, 1}, {1, 0, 2}, {2, 2, 0}, {2, 0, 0}, {2, 0, 1, 1}, {2, 0, 1, 3}, {2, 0, 3}, {2, 0, -1}} {
		if order.IsLinear(o, l) {
			t.Errorf("%v is no linear extension", l)
		}
	}
	if h := heightOf(t, o); h != 2 {
		t.Errorf("Height: %d", h)
	}
}

// P8.1: the orders of no event and of one event.
func TestLeastOrders(t *testing.T) {
	none, one := order.Order{}, order.Order{N: 1}
	if got := answersOf(none, 0, 0, nil, 5); !got.equal(answers{valid: true, isLinear: true, cut: true, count: 1}) {
		t.Errorf("no event: %v", got)
	}
	if got := answersOf(none, 0, 0, []int{0}, 5); !got.equal(answers{valid: true, count: 1}) {
		t.Errorf("no event, but a list with one: %v", got)
	}
	if got := answersOf(one, 0, 0, []int{0}, 1); !got.equal(answers{valid: true, isLinear: true, cut: true, linear: []int{0}, count: 1, height: 1, reduced: one}) {
		t.Errorf("one event: %v", got)
	}
	if got := answersOf(one, 0, 0, []int{}, 1000); !got.equal(answers{valid: true, cut: true, linear: []int{0}, count: 1, height: 1, reduced: one}) {
		t.Errorf("one event, but an empty list: %v", got)
	}
}

// P8.1: an event exists if its number is from 0 to N - 1, and is not concurrent to itself.
func TestEvents(t *testing.T) {
	for _, o := range []order.Order{{N: 1}, {N: 2}, {N: 59}, {N: 60}, chain(upTo(60)), chain(downFrom(60)), {N: 60, Edges: [][2]int{{59, 0}}}} {
		m := modelOf(o)
		numbers := []int{0, 1, o.N - 2, o.N - 1, o.N, o.N + 1, 60, 61, 63, 64, 65, 127, 128, 1000, -1, -2, -60, -63, -64, -65, math.MinInt, math.MaxInt, 1 << 32, -1 << 32}
		for _, a := range numbers {
			for _, b := range numbers {
				if order.Before(o, a, b) != m.before(a, b) || order.Concurrent(o, a, b) != m.concurrent(a, b) {
					t.Errorf("%d events: %d and %d: %v %v", o.N, a, b, order.Before(o, a, b), order.Concurrent(o, a, b))
				}
			}
			if order.Concurrent(o, a, a) || order.Before(o, a, a) {
				t.Errorf("%d events: %d and itself", o.N, a)
			}
			if order.Cut(o, []int{a}) != m.cut([]int{a}) || order.Cut(o, []int{a, a}) || order.IsLinear(o, []int{a}) != m.isLinear([]int{a}) {
				t.Errorf("%d events: a list of %d", o.N, a)
			}
		}
	}
}

// P8.1: all functions for all orders of 0 to 3 events.
func TestSmallOrders(t *testing.T) {
	lists := [][]int{nil, {0}, {1}, {2}, {3}, {-1}, {0, 0}, {0, 1}, {1, 0}, {2, 1}, {0, 2}, {0, 1, 2}, {2, 1, 0}, {1, 0, 2}, {0, 0, 1}, {0, 1, 2, 2}, {0, 1, 2, 3}}
	for n := range 4 {
		eachPlain(n, func(o order.Order) {
			m, count := modelOf(o), 0
			if m.valid {
				count = m.extensions()
			}
			for i, l := range lists {
				for most := range 8 {
					a, b := i%(n+2)-1, most%(n+2)-1
					if got, want := answersOf(o, a, b, l, most), m.expected(a, b, l, most, count); !got.equal(want) {
						t.Fatalf("%v, %d, %d, %v, %d: got %v, want %v", o, a, b, l, most, got, want)
					}
				}
			}
		})
	}
}

// P8.1: all functions for all orders of 4 events, and for larger ones.
func TestMediumOrders(t *testing.T) {
	random := rand.New(rand.NewSource(81))
	for _, o := range append(withoutLoops(), medium()...) {
		m, count := modelOf(o), 0
		if m.valid {
			count = m.extensions()
		}
		for _, most := range []int{1, 2, 3, 4, 5, 11, 12, 24, 100, 999, 1000} {
			l := random.Perm(o.N)[:random.Intn(o.N+1)]
			a, b := random.Intn(o.N), random.Intn(o.N)
			if got, want := answersOf(o, a, b, l, most), m.expected(a, b, l, most, count); !got.equal(want) {
				t.Fatalf("%v, %d, %d, %v, %d: got %v, want %v", o, a, b, l, most, got, want)
			}
		}
	}
}

// P8.1: all functions but Extensions for orders of up to 60 events.
func TestLargeOrders(t *testing.T) {
	random := rand.New(rand.NewSource(82))
	for _, o := range large() {
		m := modelOf(o)
		for range 20 {
			l := random.Perm(o.N)[:random.Intn(o.N+1)]
			a, b := random.Intn(60), random.Intn(60)
			got := answersOf(o, a, b, l, 1)
			if want := m.expected(a, b, l, 1, 1); !got.equal(want) {
				t.Fatalf("%v, %d, %d, %v: got %v, want %v", o, a, b, l, got, want)
			}
		}
	}
}

// P8.1: functions with an error return ErrArg for an order that is not valid, ahead of ErrRange; the others return false.
func TestBroken(t *testing.T) {
	for _, o := range broken() {
		if valid(o) {
			t.Fatalf("%v is valid", o)
		}
		want := answers{errors: [4]api.Errno{api.ErrArg, api.ErrArg, api.ErrArg, api.ErrArg}}
		for _, most := range []int{1, 1000, 0, -1, 1001, math.MinInt, math.MaxInt} {
			for _, l := range [][]int{nil, {0}, {1}, {0, 1}} {
				if got := answersOf(o, 0, 1, l, most); !got.equal(want) {
					t.Errorf("%v, %v, %d: got %v", o, l, most, got)
				}
			}
		}
	}
}

// P8.1: ErrRange if the limit is not from 1 to 1000.
func TestLimit(t *testing.T) {
	for _, o := range []order.Order{{}, {N: 1}, {N: 7}, {N: 60}, chain(upTo(60))} {
		for _, most := range []int{0, -1, -1000, 1001, 1002, 1 << 32, 1<<32 + 1, math.MinInt, math.MinInt + 1, math.MaxInt} {
			if n, e := order.Extensions(o, most); n != 0 || e != api.ErrRange {
				t.Errorf("%d events with the limit %d: %d %v", o.N, most, n, e)
			}
		}
	}
}

// P8.1: edges that stand several times, up to the greatest number of edges, and their order, change nothing.
func TestManyEdges(t *testing.T) {
	random := rand.New(rand.NewSource(83))
	for _, o := range large() {
		many := order.Order{N: o.N, Edges: slices.Clone(o.Edges)}
		for i := 0; len(o.Edges) > 0 && len(many.Edges) < mostEdges; i++ {
			many.Edges = append(many.Edges, many.Edges[i])
		}
		random.Shuffle(len(many.Edges), func(i, k int) { many.Edges[i], many.Edges[k] = many.Edges[k], many.Edges[i] })
		l := random.Perm(o.N)[:random.Intn(o.N+1)]
		if got, want := answersOf(many, 0, 1, l, 1000), answersOf(o, 0, 1, l, 1000); !order.Valid(many) || !got.equal(want) {
			t.Errorf("%v with %d edges: got %v, want %v", o, len(many.Edges), got, want)
		}
	}
}

// P8.1: a chain whose edges stand in any order is found as one.
func TestEdgesInAnyOrder(t *testing.T) {
	random := rand.New(rand.NewSource(84))
	for n := 2; n <= 60; n++ {
		l := random.Perm(n)
		o := chain(l)
		random.Shuffle(len(o.Edges), func(i, k int) { o.Edges[i], o.Edges[k] = o.Edges[k], o.Edges[i] })
		if !order.Before(o, l[0], l[n-1]) || order.Before(o, l[n-1], l[0]) || !slices.Equal(linearOf(t, o), l) || heightOf(t, o) != n || countOf(t, o, 1000) != 1 {
			t.Errorf("%v: %v", l, linearOf(t, o))
		}
		o.Edges = append(o.Edges, [2]int{l[n-1], l[random.Intn(n-1)]})
		if order.Valid(o) {
			t.Errorf("%v has a cycle", o)
		}
	}
}
