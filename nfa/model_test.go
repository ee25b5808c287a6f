package nfa_test

import (
	"math"
	"math/rand"
	"slices"
	"testing"

	"farandole/api"
	"farandole/bits"
	"farandole/nfa"
)

// must returns a result that comes without an error.
func must[T any](result T, e api.Errno) T {
	if e != api.OK {
		panic("an error: " + e.Name())
	}
	return result
}

// ascending reports whether an arc stands ahead of another one, by the definition.
func ascending(x, y nfa.Arc) bool {
	if x.From != y.From {
		return x.From < y.From
	}
	if x.Letter != y.Letter {
		return x.Letter < y.Letter
	}
	return x.To < y.To
}

// valid reports whether an automaton is valid, by the definition.
func valid(a nfa.NFA) bool {
	if a.States < 0 || a.States > 200 || len(a.Finals) != a.States || len(a.Arcs) > 2000 {
		return false
	}
	for i, n := range a.Start {
		if n < 0 || n >= a.States || i > 0 && n <= a.Start[i-1] {
			return false
		}
	}
	for i, x := range a.Arcs {
		if x.From < 0 || x.From >= a.States || x.To < 0 || x.To >= a.States || x.Letter < 0 || x.Letter > 10000 {
			return false
		}
		if i > 0 && !ascending(a.Arcs[i-1], x) {
			return false
		}
	}
	return true
}

// sameNFA tests that a returned automaton is valid and has these fields.
func sameNFA(t *testing.T, what string, a, want nfa.NFA) {
	t.Helper()
	if !valid(a) {
		t.Fatalf("%s: not valid: %v", what, a)
	}
	if a.States != want.States || !slices.Equal(a.Start, want.Start) || !slices.Equal(a.Finals, want.Finals) || !slices.Equal(a.Arcs, want.Arcs) {
		t.Fatalf("%s: got %v, want %v", what, a, want)
	}
}

// sameSet tests that a returned set is valid and has these elements.
func sameSet(t *testing.T, what string, s bits.Set, want []int) {
	t.Helper()
	if !bits.Valid(s) || !slices.Equal(bits.List(s), want) {
		t.Fatalf("%s: got %v (words %x), want %v", what, bits.List(s), s, want)
	}
}

// made returns an automaton of sorted arcs, each of them once.
func made(states int, start, finals []int, arcs ...nfa.Arc) nfa.NFA {
	a := nfa.NFA{States: states, Start: start, Finals: make([]bool, states)}
	for _, n := range finals {
		a.Finals[n] = true
	}
	slices.SortFunc(arcs, func(x, y nfa.Arc) int {
		switch {
		case ascending(x, y):
			return -1
		case ascending(y, x):
			return 1
		}
		return 0
	})
	a.Arcs = slices.Compact(arcs)
	return a
}

// elements returns the positions of the bits of a number, in ascending order.
func elements(code int) []int {
	var l []int
	for n := 0; code>>n != 0; n++ {
		if code>>n&1 == 1 {
			l = append(l, n)
		}
	}
	return l
}

// subsets calls f with each ascending list of some of n states.
func subsets(n int, f func(l []int)) {
	for code := range 1 << n {
		f(elements(code))
	}
}

// small calls f with each automaton that has at most 2 states, and arcs with no other letters than 0, 1 and 2.
func small(f func(a nfa.NFA)) {
	for states := range 3 {
		for start := range 1 << states {
			for finals := range 1 << states {
				for code := range 1 << (3 * states * states) {
					var arcs []nfa.Arc
					for _, i := range elements(code) {
						arcs = append(arcs, nfa.Arc{From: i / 3 / states, Letter: i % 3, To: i / 3 % states})
					}
					f(made(states, elements(start), elements(finals), arcs...))
				}
			}
		}
	}
}

// mixed returns an automaton as a random source has it: with about so many arcs for each state, a part of them empty.
func mixed(random *rand.Rand, states, letters int, each float64) nfa.NFA {
	var start, finals []int
	var arcs []nfa.Arc
	for n := range states {
		if random.Intn(states) < 2 {
			start = append(start, n)
		}
		if random.Intn(states) < 2 {
			finals = append(finals, n)
		}
	}
	for range int(each * float64(states)) {
		arcs = append(arcs, nfa.Arc{From: random.Intn(states), Letter: random.Intn(letters + 1), To: random.Intn(states)})
	}
	return made(states, start, finals, arcs...)
}

// fromEnd returns the automaton, with n + 1 states, of the words over 1 and 2 whose n-th letter from the end is 2. Its subset automaton has 2^n states.
func fromEnd(n int) nfa.NFA {
	arcs := []nfa.Arc{{From: 0, Letter: 1, To: 0}, {From: 0, Letter: 2, To: 0}, {From: 0, Letter: 2, To: 1}}
	for i := 1; i < n; i++ {
		arcs = append(arcs, nfa.Arc{From: i, Letter: 1, To: i + 1}, nfa.Arc{From: i, Letter: 2, To: i + 1})
	}
	return made(n+1, []int{0}, []int{n}, arcs...)
}

// cycles returns an automaton with a cycle of each length, with one letter. Its words of final states have a length that is a multiple of one of these, minus 1.
func cycles(letter int, lengths ...int) nfa.NFA {
	var start, finals []int
	var arcs []nfa.Arc
	states := 0
	for _, length := range lengths {
		start, finals = append(start, states), append(finals, states+length-1)
		for i := range length {
			arcs = append(arcs, nfa.Arc{From: states + i, Letter: letter, To: states + (i+1)%length})
		}
		states += length
	}
	return made(states, start, finals, arcs...)
}

// chain returns an automaton of a single path, with the letters of a word (0 for an empty arc).
func chain(word ...int) nfa.NFA {
	var arcs []nfa.Arc
	for i, letter := range word {
		arcs = append(arcs, nfa.Arc{From: i, Letter: letter, To: i + 1})
	}
	return made(len(word)+1, []int{0}, []int{len(word)}, arcs...)
}

// examples are automata of many shapes, with at most 12 states.
func examples() []nfa.NFA {
	random := rand.New(rand.NewSource(5))
	l := []nfa.NFA{
		{}, {Start: []int{}, Finals: []bool{}, Arcs: []nfa.Arc{}},
		made(1, nil, nil), made(1, []int{0}, nil), made(1, nil, []int{0}), made(1, []int{0}, []int{0}),
		made(2, []int{0}, []int{1}, nfa.Arc{From: 0, Letter: 1, To: 0}, nfa.Arc{From: 0, Letter: 2, To: 0}, nfa.Arc{From: 0, Letter: 2, To: 1}),
		made(2, nil, []int{1}, nfa.Arc{From: 0, Letter: 1, To: 1}),
		made(3, []int{0}, []int{2}, nfa.Arc{From: 0, Letter: 0, To: 1}, nfa.Arc{From: 1, Letter: 0, To: 2}, nfa.Arc{From: 2, Letter: 0, To: 0}, nfa.Arc{From: 1, Letter: 7, To: 1}),
		made(3, []int{0}, []int{2}, nfa.Arc{From: 0, Letter: 1, To: 1}, nfa.Arc{From: 0, Letter: 10000, To: 2}, nfa.Arc{From: 0, Letter: 9999, To: 2}),
		made(4, []int{0}, []int{3}, nfa.Arc{From: 0, Letter: 1, To: 0}, nfa.Arc{From: 0, Letter: 2, To: 1}, nfa.Arc{From: 0, Letter: 3, To: 2}, nfa.Arc{From: 1, Letter: 9, To: 3}, nfa.Arc{From: 2, Letter: 1, To: 3}),
		fromEnd(1), fromEnd(4), cycles(3, 2, 3), chain(0, 5, 0, 0, 5, 4, 0), chain(0, 0, 0), chain(1, 2, 3),
	}
	for _, each := range []float64{0.7, 1, 1.5, 2, 3, 5} {
		for range 12 {
			l = append(l, mixed(random, 1+random.Intn(12), 1+random.Intn(4), each))
		}
	}
	return l
}

// full returns the automaton with all arcs of so many states by so many letters, the empty ones among them.
func full(states, letters int) nfa.NFA {
	var arcs []nfa.Arc
	for i := range states * states * (letters + 1) {
		arcs = append(arcs, nfa.Arc{From: i % states, Letter: i / states / states, To: i / states % states})
	}
	return made(states, []int{0}, []int{states - 1}, arcs...)
}

// large are automata with 200 states, or with 2000 arcs.
func large() []nfa.NFA {
	random := rand.New(rand.NewSource(200))
	empties := chain(make([]int, 199)...)
	ring := made(200, []int{100}, []int{99}, append(empties.Arcs, nfa.Arc{From: 199, Letter: 0, To: 0})...)
	return []nfa.NFA{
		made(200, nil, nil), empties, ring, chain(slices.Repeat([]int{1, 0, 10000}, 66)...), full(10, 19), full(20, 4),
		mixed(random, 200, 3, 1.2), mixed(random, 200, 5, 3), mixed(random, 200, 10000, 5), mixed(random, 40, 20, 25),
		cycles(1, 8, 125), cycles(10000, 7, 11, 13), fromEnd(199),
	}
}

// wrong are automata that are not valid.
func wrong() []nfa.NFA {
	arc := func(from, letter, to int) nfa.NFA {
		return nfa.NFA{States: 2, Finals: make([]bool, 2), Arcs: []nfa.Arc{{From: from, Letter: letter, To: to}}}
	}
	pair := func(x, y nfa.Arc) nfa.NFA { return nfa.NFA{States: 2, Finals: make([]bool, 2), Arcs: []nfa.Arc{x, y}} }
	start := func(l ...int) nfa.NFA { return nfa.NFA{States: 3, Finals: make([]bool, 3), Start: l} }
	many := full(10, 19)
	many.States, many.Finals = 11, make([]bool, 11)
	many.Arcs = append(many.Arcs, nfa.Arc{From: 10, Letter: 0, To: 0})
	return []nfa.NFA{
		{States: -1}, {States: -1, Finals: []bool{true}}, {States: 1}, {Finals: []bool{false}}, {States: 2, Finals: make([]bool, 1)}, {States: 2, Finals: make([]bool, 3)},
		{States: math.MinInt}, {States: math.MaxInt}, {States: math.MaxInt, Finals: make([]bool, 4)}, {Start: []int{0}}, {Arcs: []nfa.Arc{{From: 0, Letter: 1, To: 0}}},
		start(-1), start(3), start(0, 3), start(-1, 0), start(1, 0), start(1, 1), start(0, 2, 1), start(0, 0), start(math.MinInt), start(math.MaxInt), start(0, 1, 2, 2),
		arc(2, 1, 0), arc(-1, 1, 0), arc(0, 1, 2), arc(0, 1, -1), arc(0, -1, 0), arc(0, 10001, 0), arc(0, math.MaxInt, 0), arc(0, math.MinInt, 0),
		arc(math.MaxInt, 1, 0), arc(math.MinInt, 1, 0), arc(0, 1, math.MaxInt), arc(0, 1, math.MinInt), arc(2, 0, 0), arc(0, 0, 2),
		pair(nfa.Arc{From: 0, Letter: 1, To: 1}, nfa.Arc{From: 0, Letter: 1, To: 1}), pair(nfa.Arc{From: 0, Letter: 1, To: 1}, nfa.Arc{From: 0, Letter: 1, To: 0}),
		pair(nfa.Arc{From: 0, Letter: 2, To: 0}, nfa.Arc{From: 0, Letter: 1, To: 1}), pair(nfa.Arc{From: 1, Letter: 1, To: 0}, nfa.Arc{From: 0, Letter: 2, To: 1}),
		pair(nfa.Arc{From: 0, Letter: 0, To: 0}, nfa.Arc{From: 0, Letter: 0, To: 0}), pair(nfa.Arc{From: 1, Letter: 0, To: 0}, nfa.Arc{From: 0, Letter: 0, To: 0}),
		pair(nfa.Arc{From: 0, Letter: 0, To: 0}, nfa.Arc{From: 0, Letter: -1, To: 1}), pair(nfa.Arc{From: 0, Letter: 0, To: 0}, nfa.Arc{From: 2, Letter: 0, To: 1}),
		{States: 201, Finals: make([]bool, 201)}, chain(make([]int, 200)...), many, full(21, 4),
	}
}

// closed returns the closure of some states, in ascending order (as long as an arc adds a state, all arcs are tried again).
func closed(a nfa.NFA, l []int) []int {
	in := make([]bool, a.States)
	for _, n := range l {
		in[n] = true
	}
	for again := true; again; {
		again = false
		for _, x := range a.Arcs {
			if x.Letter == 0 && in[x.From] && !in[x.To] {
				in[x.To], again = true, true
			}
		}
	}
	return marked(in)
}

// marked returns the indices that are marked.
func marked(in []bool) []int {
	var l []int
	for n, yes := range in {
		if yes {
			l = append(l, n)
		}
	}
	return l
}

// stepped returns the step of some states by a letter, in ascending order.
func stepped(a nfa.NFA, l []int, letter int) []int {
	in := make([]bool, a.States)
	for _, n := range closed(a, l) {
		in[n] = true
	}
	var to []int
	for _, x := range a.Arcs {
		if x.Letter != 0 && x.Letter == letter && in[x.From] {
			to = append(to, x.To)
		}
	}
	return closed(a, to)
}

// accepted reports whether a word leads, along a single path, from a start state to a final state.
func accepted(a nfa.NFA, word []int) bool {
	seen := map[[2]int]bool{}
	var search func(n, read int) bool
	search = func(n, read int) bool {
		if seen[[2]int{n, read}] {
			return false
		}
		seen[[2]int{n, read}] = true
		if a.Finals[n] && read == len(word) {
			return true
		}
		for _, x := range a.Arcs {
			if x.From != n {
				continue
			}
			if x.Letter == 0 && search(x.To, read) || x.Letter != 0 && read < len(word) && word[read] == x.Letter && search(x.To, read+1) {
				return true
			}
		}
		return false
	}
	return slices.ContainsFunc(a.Start, func(n int) bool { return search(n, 0) })
}

// letters returns the letters of the arcs, in ascending order.
func letters(a nfa.NFA) []int {
	in := make([]bool, 10001)
	for _, x := range a.Arcs {
		in[x.Letter] = x.Letter > 0
	}
	return marked(in)
}

// words calls f with each word of at most so many letters, shorter ones first, those of the same length in the order of lists, until f answers false.
func words(letters []int, longest int, f func(word []int) bool) {
	level := [][]int{nil}
	for length := 0; length <= longest; length++ {
		var next [][]int
		for _, word := range level {
			if !f(word) {
				return
			}
			for _, letter := range letters {
				if length < longest {
					next = append(next, append(slices.Clone(word), letter))
				}
			}
		}
		level = next
	}
}

// subsetModel is a subset automaton with lists instead of sets.
type subsetModel struct {
	sets   [][]int
	finals []bool
	arcs   []nfa.Arc
}

// determinized returns the subset automaton, by the definition, or false if it has more states than the limit.
func determinized(a nfa.NFA, limit int) (subsetModel, bool) {
	s := subsetModel{sets: [][]int{closed(a, a.Start)}}
	alphabet := letters(a)
	for from := 0; from < len(s.sets) && len(s.sets) <= limit; from++ {
		for _, letter := range alphabet {
			set := stepped(a, s.sets[from], letter)
			if len(set) == 0 {
				continue
			}
			to := slices.IndexFunc(s.sets, func(other []int) bool { return slices.Equal(other, set) })
			if to < 0 {
				to = len(s.sets)
				s.sets = append(s.sets, set)
			}
			s.arcs = append(s.arcs, nfa.Arc{From: from, Letter: letter, To: to})
		}
	}
	for _, set := range s.sets {
		s.finals = append(s.finals, slices.ContainsFunc(set, func(n int) bool { return a.Finals[n] }))
	}
	return s, len(s.sets) <= limit
}

// turned returns the reversal, by the definition.
func turned(a nfa.NFA) nfa.NFA {
	var arcs []nfa.Arc
	for _, x := range a.Arcs {
		arcs = append(arcs, nfa.Arc{From: x.To, Letter: x.Letter, To: x.From})
	}
	return made(a.States, marked(a.Finals), a.Start, arcs...)
}
