package order_test

import (
	"encoding/binary"
	"math"
	"math/rand"
	"slices"
	"testing"

	"farandole/api"
	"farandole/order"
)

const mark = 123456789

// P1: all functions return for long lists, many edges and extreme numbers.
func TestExtremes(t *testing.T) {
	long := make([]int, 1000000)
	for i := range long {
		long[i] = i
	}
	for _, o := range []order.Order{{}, {N: 1}, {N: 60}, full(60, mostEdges), chain(downFrom(60)), {N: 60, Edges: make([][2]int, 1000000)}, {N: math.MaxInt}, {N: math.MinInt}, {N: 1 << 40, Edges: [][2]int{{1 << 39, 5}}}} {
		for _, l := range [][]int{long, long[:60], long[1:61], {math.MinInt}, {math.MaxInt}, make([]int, 1000000)} {
			m := modelOf(o)
			for _, a := range []int{math.MinInt, -1, 0, 59, 60, math.MaxInt} {
				got := answersOf(o, a, 59-a, l, 1)
				if want := m.expected(a, 59-a, l, 1, 1); !got.equal(want) {
					t.Errorf("%d events, %d edges, a list of %d: got %v, want %v", o.N, len(o.Edges), len(l), got, want)
				}
			}
		}
	}
}

// P1: counting ends soon also for orders with a great number of linear extensions, or with long ways to each of them.
func TestCountingEnds(t *testing.T) {
	for _, o := range []order.Order{{N: 60}, levels(30, 30), levels(1, 58, 1), threads(30, 2), threads(2, 30), threads(20, 3), levels(59, 1), levels(2, 2, 2, 2, 2, 2, 2, 2, 2, 2, 2, 2, 2, 2, 2, 2, 2, 2, 2, 2, 2, 2, 2, 2, 2, 2, 2, 2, 2, 2)} {
		for _, most := range []int{1, 500, 1000} {
			if got := countOf(t, o, most); got != most {
				t.Errorf("%v with the limit %d: %d", o, most, got)
			}
		}
	}
}

// roomyEdges returns a copy of edges, with marked room behind it.
func roomyEdges(edges [][2]int) [][2]int {
	return append(slices.Clone(edges), [2]int{mark, mark}, [2]int{mark, mark})[:len(edges)]
}

// roomyList returns a copy of a list, with marked room behind it.
func roomyList(l []int) []int {
	return append(slices.Clone(l), mark, mark)[:len(l)]
}

// stays tests that roomy copies are as they were, with the room behind them.
func stays(t *testing.T, edges, want [][2]int, l, list []int) {
	t.Helper()
	if !slices.Equal(edges, want) || !slices.Equal(edges[len(edges):len(edges)+2], [][2]int{{mark, mark}, {mark, mark}}) {
		t.Fatalf("%v is changed to %v", want, edges[:len(edges)+2])
	}
	if !slices.Equal(l, list) || !slices.Equal(l[len(l):len(l)+2], []int{mark, mark}) {
		t.Fatalf("%v is changed to %v", list, l[:len(l)+2])
	}
}

// overwrite writes to all places of the capacities of the answers.
func (s answers) overwrite() {
	for i := range s.linear[:cap(s.linear)] {
		s.linear[:cap(s.linear)][i] = -mark
	}
	overwriteEdges(s.reduced.Edges)
}

func overwriteEdges(edges [][2]int) {
	edges = edges[:cap(edges)]
	for i := range edges {
		edges[i] = [2]int{-mark, mark}
	}
}

// P2: arguments are not modified, also not in their capacity, and share no memory with results; nor do results with each other.
func TestNothingIsShared(t *testing.T) {
	random := rand.New(rand.NewSource(2))
	for _, o := range slices.Concat(medium(), large(), broken()) {
		list := random.Perm(min(max(o.N, 0), 60))
		edges, l := roomyEdges(o.Edges), roomyList(list)
		roomy := order.Order{N: o.N, Edges: edges}
		first, second, want := answersOf(roomy, 0, 1, l, 20), answersOf(roomy, 0, 1, l, 20), answersOf(o, 0, 1, list, 20)
		first.overwrite()
		stays(t, edges, o.Edges, l, list)
		if !second.equal(want) {
			t.Fatalf("%v: the change of a result changes another one", o)
		}
		overwriteEdges(edges)
		for i := range l {
			l[i] = -mark
		}
		if !second.equal(want) {
			t.Fatalf("%v: the change of arguments changes a result", o)
		}
	}
}

// P2: a linear extension and a reduction may be used as arguments, and stay what they are.
func TestResultsAsArguments(t *testing.T) {
	for _, o := range large() {
		l, r := linearOf(t, o), reducedOf(t, o)
		list, reduced := slices.Clone(l), order.Order{N: r.N, Edges: slices.Clone(r.Edges)}
		again := reducedOf(t, r)
		overwriteEdges(again.Edges)
		if !order.IsLinear(r, l) || !order.Cut(r, l) || !slices.Equal(linearOf(t, r), l) {
			t.Fatalf("%v: %v and %v", o, l, r)
		}
		if !slices.Equal(l, list) || !same(r, reduced) {
			t.Fatalf("%v: %v and %v are changed", o, list, reduced)
		}
	}
}

// P3: the same calls lead to the same results, whatever was called in between.
func TestSameAgain(t *testing.T) {
	all := slices.Concat(medium(), large(), broken())
	var first []answers
	for i, o := range all {
		first = append(first, answersOf(o, i%5, i%3, upTo(i%7), 1+i%300))
	}
	for i, o := range slices.Backward(all) {
		if again := answersOf(o, i%5, i%3, upTo(i%7), 1+i%300); !again.equal(first[i]) {
			t.Fatalf("%v: %v, then %v", o, first[i], again)
		}
	}
}

// orderOf reads an order from bytes: the number of events, and two numbers for each edge.
func orderOf(data []byte) order.Order {
	if len(data) == 0 {
		return order.Order{}
	}
	o := order.Order{N: int(int8(data[0]))}
	for data = data[1:]; len(data) >= 2; data = data[2:] {
		o.Edges = append(o.Edges, [2]int{int(int8(data[0])), int(int8(data[1]))})
	}
	return o
}

func FuzzOrder(f *testing.F) {
	f.Add([]byte{3, 2, 0}, []byte{1, 2, 0}, 5)
	f.Add([]byte{}, []byte{}, 0)
	f.Add([]byte{4, 0, 1, 1, 3, 0, 3, 0, 2}, []byte{0, 1}, 1000)
	f.Add([]byte{60, 59, 0, 0, 30}, []byte{59, 0}, 1)
	f.Add([]byte{2, 0, 1, 1, 0}, []byte{255}, 1001)
	f.Add(binary.BigEndian.AppendUint64([]byte{9}, 0x0102030405060708), []byte{0, 1, 2, 3, 4, 5, 6, 7, 8}, 100)
	f.Fuzz(func(t *testing.T, data, list []byte, most int) {
		o := orderOf(data)
		var l []int
		for _, event := range list {
			l = append(l, int(int8(event)))
		}
		a, b := len(data)%7, len(list)%7
		m, count := modelOf(o), 0
		if m.valid && o.N <= 12 {
			count = m.extensions()
		} else if n, e := order.Extensions(o, most); e == api.OK {
			count = n
		}
		if got, want := answersOf(o, a, b, l, most), m.expected(a, b, l, most, count); !got.equal(want) {
			t.Errorf("%v, %v, %d: got %v, want %v", o, l, most, got, want)
		}
	})
}
