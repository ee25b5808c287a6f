package dfa_test

import (
	"math"
	"math/rand"
	"slices"
	"testing"

	"farandole/api"
	"farandole/dfa"
	"farandole/nfa"
)

// freely returns a nondeterministic automaton as a random source has it.
func freely(random *rand.Rand, states, letters, arcs int) nfa.NFA {
	a := nfa.NFA{States: states}
	for n := range states {
		if n == 0 || random.Intn(4) == 0 {
			a.Start = append(a.Start, n)
		}
		a.Finals = append(a.Finals, random.Intn(3) == 0)
	}
	seen := map[nfa.Arc]bool{}
	for range arcs {
		seen[nfa.Arc{From: random.Intn(states), Letter: random.Intn(letters + 1), To: random.Intn(states)}] = true
	}
	for from := range states {
		for letter := range letters + 1 {
			for to := range states {
				if x := (nfa.Arc{From: from, Letter: letter, To: to}); seen[x] {
					a.Arcs = append(a.Arcs, x)
				}
			}
		}
	}
	return a
}

// testFrom tests From with what Determinize returns.
func testFrom(t *testing.T, a nfa.NFA, limit int) {
	t.Helper()
	d, e := dfa.From(a, limit)
	s, want := nfa.Determinize(a, limit)
	if want == api.OK && len(s.Arcs) > 20000 {
		want = api.ErrLimit
	}
	if e != want {
		t.Fatalf("%v with the limit %d: got %s, want %s", a, limit, e.Name(), want.Name())
	}
	if e != api.OK {
		if !equal(d, dfa.DFA{}) {
			t.Fatalf("%v with the limit %d: got %v %s", a, limit, d, e.Name())
		}
		return
	}
	sameDFA(t, "From", d, dfa.DFA{States: len(s.Sets), Finals: s.Finals, Arcs: s.Arcs})
	sameDFA(t, "Canonical of From", must(dfa.Canonical(d)), d)
}

// P6.1, P6.2: the automaton of the subset automaton, for limits above and below its number of states; it accepts the same words.
func TestFrom(t *testing.T) {
	random := rand.New(rand.NewSource(70))
	for range 600 {
		a := freely(random, 1+random.Intn(6), 1+random.Intn(3), random.Intn(20))
		for _, limit := range []int{1000, 3, 5, random.Intn(12)} {
			testFrom(t, a, limit)
		}
		d := must(dfa.From(a, 1000))
		words([]int{1, 2, 3}, 4, func(word []int) bool {
			if accepted(d, word) != must(nfa.Accepts(a, word)) {
				t.Fatalf("%v: %v", a, word)
			}
			return true
		})
	}
	for range 20 {
		testFrom(t, freely(random, 40, 3, 100), 1000)
	}
}

// P6.1: automata without states, or without start states, accept nothing.
func TestFromNothing(t *testing.T) {
	for _, limit := range []int{1, 2, 1000, math.MaxInt} {
		sameDFA(t, "without states", must(dfa.From(nfa.NFA{}, limit)), nothing())
		sameDFA(t, "without start states", must(dfa.From(nfa.NFA{States: 2, Finals: []bool{true, true}, Arcs: []nfa.Arc{{From: 0, Letter: 1, To: 1}}}, limit)), nothing())
	}
}

// P6.1: the errors of Determinize: ErrArg if the automaton is not valid, ahead of ErrLimit.
func TestFromErrors(t *testing.T) {
	one := nfa.NFA{States: 1, Start: []int{0}, Finals: []bool{true}}
	for i, c := range []struct {
		a     nfa.NFA
		limit int
		e     api.Errno
	}{
		{nfa.NFA{States: -1}, 5, api.ErrArg}, {nfa.NFA{States: 1}, 5, api.ErrArg}, {nfa.NFA{States: 1}, 0, api.ErrArg}, {nfa.NFA{States: 201, Finals: make([]bool, 201)}, -1, api.ErrArg},
		{nfa.NFA{States: 1, Start: []int{1}, Finals: []bool{true}}, math.MinInt, api.ErrArg}, {nfa.NFA{States: 1, Finals: []bool{true}, Arcs: []nfa.Arc{{From: 0, Letter: 10001, To: 0}}}, 5, api.ErrArg},
		{one, 0, api.ErrLimit}, {one, -1, api.ErrLimit}, {one, math.MinInt, api.ErrLimit}, {one, 1, api.OK}, {one, math.MaxInt, api.OK}, {nfa.NFA{}, 0, api.ErrLimit},
	} {
		d, e := dfa.From(c.a, c.limit)
		if e != c.e || e != api.OK && !equal(d, dfa.DFA{}) {
			t.Errorf("%d: got %v %s", i, d, e.Name())
		}
	}
}

// sets returns an automaton with two cycles of these lengths of the letter 10000, and a state with loops of this letter and of the letters 1 to count. Its subset automaton has a set for each pair of places in the cycles, and that of the last state alone, each with count + 1 arcs.
func sets(p, q, count int) nfa.NFA {
	last := p + q
	a := nfa.NFA{States: last + 1, Start: []int{0, p, last}, Finals: make([]bool, last+1)}
	a.Finals[last] = true
	for n := range last {
		to := n + 1
		switch to {
		case p:
			to = 0
		case last:
			to = p
		}
		a.Arcs = append(a.Arcs, nfa.Arc{From: n, Letter: 10000, To: to})
	}
	for letter := 1; letter <= count; letter++ {
		a.Arcs = append(a.Arcs, nfa.Arc{From: last, Letter: letter, To: last})
	}
	a.Arcs = append(a.Arcs, nfa.Arc{From: last, Letter: 10000, To: last})
	return a
}

// P6.1: ErrLimit if there are more than 20000 arcs, and none with exactly so many, or with exactly 1000 states.
func TestFromLimits(t *testing.T) {
	more := sets(27, 37, 19)
	more.Arcs = slices.Insert(more.Arcs, 0, nfa.Arc{From: 0, Letter: 1, To: 64})
	for i, c := range []struct {
		a            nfa.NFA
		limit        int
		states, arcs int
		e            api.Errno
	}{
		{sets(27, 37, 19), 1000, 1000, 20000, api.OK}, {sets(27, 37, 19), math.MaxInt, 1000, 20000, api.OK}, {sets(27, 37, 19), 999, 0, 0, api.ErrLimit}, {sets(27, 37, 20), 1000, 0, 0, api.ErrLimit},
		{sets(8, 125, 0), 1000, 1000, 1000, api.OK}, {sets(8, 125, 1), 1000, 0, 0, api.ErrLimit}, {sets(8, 123, 1868), 1000, 0, 0, api.ErrLimit}, {sets(3, 4, 1537), 1000, 13, 13 * 1538, api.OK}, {sets(3, 4, 1538), 1000, 0, 0, api.ErrLimit}, {more, 1000, 1000, 20000, api.OK},
	} {
		d, e := dfa.From(c.a, c.limit)
		if e != c.e || d.States != c.states || len(d.Arcs) != c.arcs || e == api.OK && !valid(d) {
			t.Errorf("%d: got %d states, %d arcs, %s", i, d.States, len(d.Arcs), e.Name())
		}
	}
	for _, count := range []int{40, 41} {
		d, e := dfa.From(starting(sets(12, 83, 19), count), 1000)
		if count == 40 && (e != api.OK || d.States != 998 || len(d.Arcs) != 20000) || count == 41 && (e != api.ErrLimit || !equal(d, dfa.DFA{})) {
			t.Errorf("%d: got %d states, %d arcs, %s", count, d.States, len(d.Arcs), e.Name())
		}
	}
}

// starting returns an automaton with one more start state, which has arcs with so many letters, from 101 on, to the last state, and no arc leads to it.
func starting(a nfa.NFA, count int) nfa.NFA {
	n := a.States
	for i := range count {
		a.Arcs = append(a.Arcs, nfa.Arc{From: n, Letter: 101 + i, To: n - 1})
	}
	return nfa.NFA{States: n + 1, Start: append(a.Start, n), Finals: append(a.Finals, false), Arcs: a.Arcs}
}
