package order_test

import (
	"math/rand"
	"slices"
	"testing"

	"farandole/api"
	"farandole/order"
)

const (
	mostEvents = 60
	mostEdges  = 3600
	mostCount  = 1000
)

// relation tells for each pair of events whether a path leads from the first to the second one.
type relation [][]bool

// relationOf searches the paths from each event. Edges of events that do not exist are left out.
func relationOf(o order.Order) relation {
	next := make([][]int, max(o.N, 0))
	for _, edge := range o.Edges {
		if exists(o, edge[0]) && exists(o, edge[1]) {
			next[edge[0]] = append(next[edge[0]], edge[1])
		}
	}
	r := make(relation, len(next))
	for a := range r {
		r[a] = make([]bool, len(next))
		for found := slices.Clone(next[a]); len(found) > 0; found = found[1:] {
			if b := found[0]; !r[a][b] {
				r[a][b] = true
				found = append(found, next[b]...)
			}
		}
	}
	return r
}

func exists(o order.Order, event int) bool { return event >= 0 && event <= o.N-1 }

// valid reports whether an order is valid, by the definition.
func valid(o order.Order) bool {
	if o.N < 0 || o.N > mostEvents || len(o.Edges) > mostEdges {
		return false
	}
	for _, edge := range o.Edges {
		if !exists(o, edge[0]) || !exists(o, edge[1]) {
			return false
		}
	}
	r := relationOf(o)
	for event := range r {
		if r[event][event] {
			return false
		}
	}
	return true
}

// model has an order with what is known of it.
type model struct {
	o     order.Order
	valid bool
	r     relation
}

func modelOf(o order.Order) model {
	m := model{o: o, valid: valid(o)}
	if m.valid {
		m.r = relationOf(o)
	}
	return m
}

func (m model) before(a, b int) bool {
	return m.valid && exists(m.o, a) && exists(m.o, b) && m.r[a][b]
}

func (m model) concurrent(a, b int) bool {
	return m.valid && exists(m.o, a) && exists(m.o, b) && a != b && !m.r[a][b] && !m.r[b][a]
}

// all reports whether f holds for all that is before an event.
func (m model) all(event int, f func(other int) bool) bool {
	for other := range m.o.N {
		if m.r[other][event] && !f(other) {
			return false
		}
	}
	return true
}

// total reports whether any two events are ordered.
func (m model) total() bool {
	for a := range m.o.N {
		for b := range a {
			if !m.r[a][b] && !m.r[b][a] {
				return false
			}
		}
	}
	return true
}

// cut reports whether a list is a cut: different events that exist, with all that is before them.
func (m model) cut(l []int) bool {
	if !m.valid {
		return false
	}
	for i, event := range l {
		if !exists(m.o, event) || slices.Contains(l[:i], event) {
			return false
		}
		if !m.all(event, func(other int) bool { return slices.Contains(l, other) }) {
			return false
		}
	}
	return true
}

// isLinear reports whether a list has each event once, and never an event ahead of one that is before it.
func (m model) isLinear(l []int) bool {
	if !m.valid || len(l) != m.o.N {
		return false
	}
	for event := range m.o.N {
		if !slices.Contains(l, event) {
			return false
		}
	}
	for i := range l {
		for k := range i {
			if m.r[l[i]][l[k]] {
				return false
			}
		}
	}
	return true
}

// linear returns the least linear extension.
func (m model) linear() []int {
	var l []int
	for len(l) < m.o.N {
		for event := range m.o.N {
			if !slices.Contains(l, event) && m.all(event, func(other int) bool { return slices.Contains(l, other) }) {
				l = append(l, event)
				break
			}
		}
	}
	return l
}

// reduction returns the edges between which there is no event.
func (m model) reduction() [][2]int {
	var edges [][2]int
	for a := range m.o.N {
		for b := range m.o.N {
			direct := m.r[a][b]
			for c := range m.o.N {
				direct = direct && !(m.r[a][c] && m.r[c][b])
			}
			if direct {
				edges = append(edges, [2]int{a, b})
			}
		}
	}
	return edges
}

// height returns the length of the longest chain, of those that end with each event.
func (m model) height() int {
	longest := make([]int, m.o.N)
	for _, event := range m.linear() {
		for other := range m.o.N {
			if m.r[other][event] {
				longest[event] = max(longest[event], longest[other])
			}
		}
		longest[event]++
	}
	return slices.Max(append(longest, 0))
}

// extensions returns the number of linear extensions by a table of the numbers of ways to each cut. It suits small orders.
func (m model) extensions() int {
	ways := map[int]int{0: 1}
	for range m.o.N {
		longer := map[int]int{}
		for cut, n := range ways {
			for event := range m.o.N {
				if cut>>event&1 == 0 && m.all(event, func(other int) bool { return cut>>other&1 == 1 }) {
					longer[cut|1<<event] += n
				}
			}
		}
		ways = longer
	}
	return ways[1<<m.o.N-1]
}

// permutations calls f with each list of the numbers 0 to n - 1.
func permutations(n int, f func(l []int)) {
	var extend func(l []int)
	extend = func(l []int) {
		if len(l) == n {
			f(l)
			return
		}
		for event := range n {
			if !slices.Contains(l, event) {
				extend(append(slices.Clone(l), event))
			}
		}
	}
	extend(nil)
}

// eachPlain calls f with all orders of n events, valid or not, that have each edge at most once.
func eachPlain(n int, f func(o order.Order)) {
	for edges := range 1 << (n * n) {
		o := order.Order{N: n}
		for i := range n * n {
			if edges>>i&1 == 1 {
				o.Edges = append(o.Edges, [2]int{i / n, i % n})
			}
		}
		f(o)
	}
}

// withoutLoops returns all orders of 4 events without edges from an event to itself, valid or not.
func withoutLoops() []order.Order {
	var possible [][2]int
	for a := range 4 {
		for b := range 4 {
			if a != b {
				possible = append(possible, [2]int{a, b})
			}
		}
	}
	var l []order.Order
	for edges := range 1 << len(possible) {
		o := order.Order{N: 4}
		for i, edge := range possible {
			if edges>>i&1 == 1 {
				o.Edges = append(o.Edges, edge)
			}
		}
		l = append(l, o)
	}
	return l
}

// randomOrder returns a valid order of n events with up to many edges, some of them more than once, whose numbers are mixed.
func randomOrder(random *rand.Rand, n, many int) order.Order {
	o := order.Order{N: n}
	place := random.Perm(n)
	for range many {
		a, b := random.Intn(n), random.Intn(n)
		if a < b {
			o.Edges = append(o.Edges, [2]int{place[a], place[b]})
		}
	}
	return o
}

// chain returns an order with one path through all events of a list.
func chain(l []int) order.Order {
	o := order.Order{N: len(l)}
	for i := 1; i < len(l); i++ {
		o.Edges = append(o.Edges, [2]int{l[i-1], l[i]})
	}
	return o
}

// upTo returns the list of the numbers 0 to n - 1.
func upTo(n int) []int {
	var l []int
	for i := range n {
		l = append(l, i)
	}
	return l
}

// downFrom returns the list of the numbers n - 1 to 0.
func downFrom(n int) []int {
	l := upTo(n)
	slices.Reverse(l)
	return l
}

// levels returns an order in which each event of a level is before each one of the next level.
func levels(sizes ...int) order.Order {
	o := order.Order{}
	var last []int
	for _, size := range sizes {
		var level []int
		for range size {
			for _, a := range last {
				o.Edges = append(o.Edges, [2]int{a, o.N})
			}
			level = append(level, o.N)
			o.N++
		}
		last = level
	}
	return o
}

// threads returns an order of several chains of the same length, one behind the other in their numbers.
func threads(many, long int) order.Order {
	o := order.Order{N: many * long}
	for event := range o.N {
		if event%long > 0 {
			o.Edges = append(o.Edges, [2]int{event - 1, event})
		}
	}
	return o
}

// full returns the order of n events with all edges to a greater number, in which some edges are doubled, so that it has as many edges as given.
func full(n, many int) order.Order {
	o := order.Order{N: n}
	for a := range n {
		for b := range a {
			o.Edges = append(o.Edges, [2]int{b, a})
		}
	}
	for i := 0; len(o.Edges) < many; i++ {
		o.Edges = append(o.Edges, o.Edges[i])
	}
	return o
}

// large returns valid orders of up to 60 events.
func large() []order.Order {
	random := rand.New(rand.NewSource(8))
	l := []order.Order{
		{}, {N: 1}, {N: 31}, {N: 32}, {N: 33}, {N: 59}, {N: 60},
		chain(upTo(60)), chain(downFrom(60)), chain(random.Perm(60)), chain(random.Perm(33)),
		levels(30, 30), levels(1, 59), levels(59, 1), levels(20, 1, 20, 1, 18), levels(2, 2, 2, 2, 2, 2), levels(8, 8, 8, 8, 8, 8, 8),
		threads(2, 30), threads(30, 2), threads(6, 10), threads(60, 1),
		full(60, 0), full(60, mostEdges), full(2, mostEdges),
		{N: 60, Edges: [][2]int{{59, 0}}}, {N: 60, Edges: [][2]int{{0, 59}}}, {N: 60, Edges: [][2]int{{58, 59}, {57, 58}}}, {N: 34, Edges: [][2]int{{32, 31}, {33, 32}}},
	}
	for range 60 {
		l = append(l, randomOrder(random, 1+random.Intn(60), random.Intn(200)))
	}
	for _, many := range []int{10, 30, 60, 100, 300, 1000, mostEdges} {
		l = append(l, randomOrder(random, 60, many), randomOrder(random, 60, many))
	}
	return l
}

// medium returns valid orders of 4 to 9 events.
func medium() []order.Order {
	random := rand.New(rand.NewSource(88))
	l := []order.Order{levels(3, 3, 2), levels(1, 3, 1, 3), levels(4, 4), threads(2, 4), threads(4, 2), threads(3, 3)}
	for n := 4; n <= 9; n++ {
		for many := range 40 {
			l = append(l, randomOrder(random, n, many))
		}
	}
	return l
}

// broken returns orders that are not valid.
func broken() []order.Order {
	const least, greatest = -1 << 63, 1<<63 - 1
	l := []order.Order{
		{N: -1}, {N: 61}, {N: 64}, {N: 65}, {N: 1000}, {N: least}, {N: greatest}, {N: 1 << 32}, {N: -1, Edges: [][2]int{{-1, -1}}}, {N: 0, Edges: [][2]int{{0, 0}}},
		{N: 2, Edges: [][2]int{{0, 1}, {0, 1}, {1, 0}}}, {N: 61, Edges: chain(upTo(60)).Edges}, {N: 59, Edges: chain(upTo(60)).Edges},
		full(60, mostEdges+1), full(2, mostEdges+1), full(2, 10000), {N: 1, Edges: make([][2]int, mostEdges+1)},
	}
	for _, n := range []int{1, 2, 3, 59, 60} {
		for _, outside := range []int{-1, n, n + 1, 60, 63, 64, 100, -60, -64, least, greatest, 1 << 32, -1 << 32} {
			l = append(l, order.Order{N: n, Edges: [][2]int{{0, outside}}}, order.Order{N: n, Edges: [][2]int{{outside, 0}}})
			o := chain(upTo(n))
			l = append(l, order.Order{N: n, Edges: append(o.Edges, [2]int{outside, outside})})
		}
		cycle := chain(upTo(n))
		l = append(l, order.Order{N: n, Edges: append(cycle.Edges, [2]int{n - 1, 0})}, order.Order{N: n, Edges: [][2]int{{n - 1, n - 1}}})
	}
	return l
}

// answers are the results of all functions for one order, a pair of events, a list and a limit.
type answers struct {
	valid, before, concurrent, isLinear, cut bool
	linear                                   []int
	count, height                            int
	reduced                                  order.Order
	errors                                   [4]api.Errno
}

func answersOf(o order.Order, a, b int, l []int, most int) answers {
	var s answers
	s.valid, s.before, s.concurrent = order.Valid(o), order.Before(o, a, b), order.Concurrent(o, a, b)
	s.isLinear, s.cut = order.IsLinear(o, l), order.Cut(o, l)
	s.linear, s.errors[0] = order.Linear(o)
	s.count, s.errors[1] = order.Extensions(o, most)
	s.reduced, s.errors[2] = order.Reduce(o)
	s.height, s.errors[3] = order.Height(o)
	return s
}

// expected returns the answers by the definitions; count is the number of linear extensions, if the order is valid.
func (m model) expected(a, b int, l []int, most, count int) answers {
	if !m.valid {
		return answers{errors: [4]api.Errno{api.ErrArg, api.ErrArg, api.ErrArg, api.ErrArg}}
	}
	s := answers{valid: true, before: m.before(a, b), concurrent: m.concurrent(a, b), isLinear: m.isLinear(l), cut: m.cut(l)}
	s.linear, s.height, s.reduced = m.linear(), m.height(), order.Order{N: m.o.N, Edges: m.reduction()}
	if most < 1 || most > mostCount {
		s.errors[1] = api.ErrRange
	} else {
		s.count = min(count, most)
	}
	return s
}

func (s answers) equal(t answers) bool {
	return s.valid == t.valid && s.before == t.before && s.concurrent == t.concurrent && s.isLinear == t.isLinear && s.cut == t.cut &&
		slices.Equal(s.linear, t.linear) && s.count == t.count && s.height == t.height && same(s.reduced, t.reduced) && s.errors == t.errors
}

func same(o, other order.Order) bool { return o.N == other.N && slices.Equal(o.Edges, other.Edges) }

// linearOf returns the linear extension of a valid order.
func linearOf(t *testing.T, o order.Order) []int {
	t.Helper()
	l, e := order.Linear(o)
	if e != api.OK {
		t.Fatalf("Linear of %v: %v", o, e)
	}
	return l
}

// countOf returns the number of linear extensions of a valid order.
func countOf(t *testing.T, o order.Order, most int) int {
	t.Helper()
	n, e := order.Extensions(o, most)
	if e != api.OK {
		t.Fatalf("Extensions of %v with the limit %d: %v", o, most, e)
	}
	return n
}

// reducedOf returns the reduction of a valid order.
func reducedOf(t *testing.T, o order.Order) order.Order {
	t.Helper()
	r, e := order.Reduce(o)
	if e != api.OK {
		t.Fatalf("Reduce of %v: %v", o, e)
	}
	return r
}

// heightOf returns the height of a valid order.
func heightOf(t *testing.T, o order.Order) int {
	t.Helper()
	h, e := order.Height(o)
	if e != api.OK {
		t.Fatalf("Height of %v: %v", o, e)
	}
	return h
}
