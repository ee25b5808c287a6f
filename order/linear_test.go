package order_test

import (
	"math/rand"
	"slices"
	"testing"

	"farandole/order"
)

// P8.3: Linear returns a linear extension; its beginnings are cuts.
func TestLinear(t *testing.T) {
	for _, o := range append(medium(), large()...) {
		m, l := modelOf(o), linearOf(t, o)
		if !m.isLinear(l) || !order.IsLinear(o, l) {
			t.Fatalf("%v: %v", o, l)
		}
		for n := range o.N + 1 {
			if !m.cut(l[:n]) || !order.Cut(o, l[:n]) {
				t.Fatalf("%v: %v is no cut", o, l[:n])
			}
		}
	}
}

// P8.3: a list is a linear extension exactly if each of its beginnings is a cut, and it has all events. The least one comes first.
func TestAllLists(t *testing.T) {
	for _, o := range medium() {
		if o.N > 6 {
			continue
		}
		m, least, many := modelOf(o), []int(nil), 0
		permutations(o.N, func(l []int) {
			cuts := true
			for n := range o.N + 1 {
				cuts = cuts && order.Cut(o, l[:n])
			}
			is := order.IsLinear(o, l)
			if is != cuts || is != m.isLinear(l) {
				t.Fatalf("%v: %v", o, l)
			}
			if is && many == 0 {
				least = l
			}
			if is {
				many++
			}
		})
		if got := linearOf(t, o); !slices.Equal(got, least) {
			t.Fatalf("%v: got %v, want %v", o, got, least)
		}
		if got := countOf(t, o, 1000); got != many {
			t.Fatalf("%v: got %d, want %d", o, got, many)
		}
	}
}

// P8.3: lists that differ a little from a linear extension.
func TestAlmostLinear(t *testing.T) {
	random := rand.New(rand.NewSource(83))
	yes, no := 0, 0
	for _, o := range append(medium(), large()...) {
		m, l := modelOf(o), linearOf(t, o)
		for range 30 {
			near := slices.Clone(l)
			for i := range near {
				if random.Intn(4) == 0 && i > 0 {
					near[i-1], near[i] = near[i], near[i-1]
				}
			}
			switch random.Intn(8) {
			case 0:
				near = append(near, random.Intn(o.N+1))
			case 1:
				near = near[:max(len(near)-1, 0)]
			case 2:
				if o.N > 0 {
					near[random.Intn(o.N)] = random.Intn(o.N+2) - 1
				}
			}
			got := order.IsLinear(o, near)
			if got != m.isLinear(near) || order.Cut(o, near) != m.cut(near) {
				t.Fatalf("%v: %v", o, near)
			}
			if got {
				yes++
			} else {
				no++
			}
		}
	}
	if yes < 100 || no < 100 {
		t.Errorf("%d lists are linear extensions, %d are not", yes, no)
	}
}

// P8.1, P8.3: the events of a cut may stand in any order; a cut has different events that exist, with all that is before them.
func TestCuts(t *testing.T) {
	random := rand.New(rand.NewSource(85))
	for _, o := range append(medium(), large()...) {
		m := modelOf(o)
		l := linearOf(t, o)
		for n := range o.N + 1 {
			cut := slices.Clone(l[:n])
			random.Shuffle(n, func(i, k int) { cut[i], cut[k] = cut[k], cut[i] })
			if !order.Cut(o, cut) {
				t.Fatalf("%v: %v is a cut", o, cut)
			}
			if n == 0 {
				continue
			}
			i := random.Intn(n)
			less := slices.Delete(slices.Clone(cut), i, i+1)
			if order.Cut(o, append(slices.Clone(cut), cut[i])) || order.Cut(o, append(slices.Clone(cut), o.N)) || order.Cut(o, less) != m.cut(less) {
				t.Fatalf("%v: %v is changed a little", o, cut)
			}
		}
	}
}

// P8.5: exactly one linear extension if any two events are ordered, and else at least two.
func TestOneExtension(t *testing.T) {
	for _, o := range append(medium(), large()...) {
		n, total := countOf(t, o, 1000), modelOf(o).total()
		if n < 1 || (n == 1) != total {
			t.Errorf("%v: %d linear extensions", o, n)
		}
	}
}

// P8.5: without edges there are N! linear extensions.
func TestFactorial(t *testing.T) {
	all := 1
	for n := range mostEvents + 1 {
		if n > 0 {
			all = min(all*n, 1000000)
		}
		for _, most := range []int{1, 2, 6, 23, 24, 25, 119, 120, 121, 719, 720, 721, 999, 1000} {
			if got := countOf(t, order.Order{N: n}, most); got != min(all, most) {
				t.Errorf("%d events with the limit %d: %d", n, most, got)
			}
		}
	}
}

// P8.5: the number of linear extensions of orders of a known form.
func TestKnownCounts(t *testing.T) {
	for i, c := range []struct {
		o    order.Order
		want int
	}{
		{threads(2, 1), 2}, {threads(2, 2), 6}, {threads(2, 3), 20}, {threads(2, 4), 70}, {threads(2, 5), 252}, {threads(2, 6), 924}, {threads(2, 7), 3432}, {threads(3, 2), 90}, {threads(3, 3), 1680}, {threads(4, 2), 2520},
		{levels(3, 3), 36}, {levels(1, 5, 1), 120}, {levels(2, 2, 2, 2, 2, 2), 64}, {levels(2, 1, 2, 1, 2, 1, 2, 1, 2), 32}, {levels(1, 2, 3, 4), 288}, {levels(5, 1, 3), 720},
		{chain(upTo(60)), 1}, {full(60, mostEdges), 1}, {order.Order{N: 60, Edges: append(chain(upTo(59)).Edges, [2]int{57, 59})}, 2},
		{order.Order{N: 60, Edges: chain(upTo(59)).Edges}, 60}, {order.Order{N: 60, Edges: append(chain(upTo(58)).Edges, [2]int{0, 59}, [2]int{59, 57})}, 59 * 57},
		{order.Order{N: 60, Edges: append(chain(upTo(30)).Edges, chain(upTo(60)).Edges[30:]...)}, 1000000}, {order.Order{N: 60, Edges: chain(downFrom(58)).Edges}, 3540},
	} {
		for _, most := range []int{1, 2, 3, 10, 59, 60, 61, 100, 500, 999, 1000} {
			if got := countOf(t, c.o, most); got != min(c.want, most) {
				t.Errorf("%d with the limit %d: got %d, want %d", i, most, got, c.want)
			}
		}
	}
}

// P8.5: an additional edge never makes the linear extensions more. With an edge one way or the other between two concurrent events, there are as many as without.
func TestMoreEdges(t *testing.T) {
	random := rand.New(rand.NewSource(86))
	for _, o := range append(medium(), large()...) {
		if o.N < 2 || len(o.Edges) == mostEdges {
			continue
		}
		for range 10 {
			a, b := random.Intn(o.N), random.Intn(o.N)
			one := order.Order{N: o.N, Edges: append(slices.Clone(o.Edges), [2]int{a, b})}
			other := order.Order{N: o.N, Edges: append(slices.Clone(o.Edges), [2]int{b, a})}
			n := countOf(t, o, 1000)
			switch {
			case order.Concurrent(o, a, b):
				k, l := countOf(t, one, 1000), countOf(t, other, 1000)
				if k > n || l > n || min(k+l, 1000) != n {
					t.Fatalf("%v, %d and %d: %d, but %d and %d with an edge", o, a, b, n, k, l)
				}
			case order.Before(o, a, b):
				if k := countOf(t, one, 1000); k != n || order.Valid(other) {
					t.Fatalf("%v, %d before %d: %d, but %d with an edge", o, a, b, n, k)
				}
			case order.Before(o, b, a):
				if k := countOf(t, other, 1000); k != n || order.Valid(one) {
					t.Fatalf("%v, %d before %d: %d, but %d with an edge", o, b, a, n, k)
				}
			}
		}
	}
}

// P8.5: random orders of which the table of cuts is small, with the exact number.
func TestCounts(t *testing.T) {
	for _, o := range medium() {
		want := modelOf(o).extensions()
		for _, most := range []int{1, 2, want - 1, want, want + 1, 1000} {
			if most < 1 || most > 1000 {
				continue
			}
			if got := countOf(t, o, most); got != min(want, most) {
				t.Errorf("%v with the limit %d: got %d, want %d", o, most, got, want)
			}
		}
	}
}
