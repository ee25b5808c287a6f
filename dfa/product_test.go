package dfa_test

import (
	"math/rand"
	"slices"
	"testing"

	"farandole/api"
	"farandole/dfa"
	"farandole/nfa"
)

// multiplied returns the canonical automaton of the pairs of states to which both automata read a word.
func multiplied(a, b dfa.DFA) dfa.DFA {
	return numbered(lone{a.Start, b.Start}, func(p lone) bool { return a.Finals[p.a] && b.Finals[p.b] }, func(p lone) map[int]lone {
		l := map[int]lone{}
		for letter, to := range stepsOf(a, b, p) {
			if to.b >= 0 {
				l[letter] = to
			}
		}
		return l
	})
}

// P6.5: the product of each pair of automata of at most 2 states accepts the words that both accept.
func TestProductSmall(t *testing.T) {
	all, sets := every()
	for i, a := range all {
		for k, b := range all {
			if (i+k)%7 != 0 {
				continue
			}
			if p := must(dfa.Product(a, b)); !valid(p) || acceptance(p) != sets[i]&sets[k] {
				t.Fatalf("%v and %v: got %v", a, b, p)
			}
		}
	}
}

// P6.1, P6.5: the states of a product are the reached pairs, also the useless ones, in canonical numbering.
func TestProduct(t *testing.T) {
	random := rand.New(rand.NewSource(68))
	all := examples()
	for range 3000 {
		a, b := all[random.Intn(len(all))], all[random.Intn(len(all))]
		sameDFA(t, "a product", must(dfa.Product(a, b)), multiplied(a, b))
	}
	for range 1500 {
		a, b := mixed(random, 1+random.Intn(7), 3, 3*random.Float64()), mixed(random, 1+random.Intn(7), 3, 3*random.Float64())
		sameDFA(t, "a product", must(dfa.Product(a, b)), multiplied(a, b))
	}
	i := 0
	small(func(a dfa.DFA) {
		if i++; i%6 == 0 {
			small(func(b dfa.DFA) {
				if i++; i%6 == 0 {
					sameDFA(t, "a product", must(dfa.Product(a, b)), multiplied(a, b))
				}
			})
		}
	})
}

// P6.5: words of larger products.
func TestProductOfLarge(t *testing.T) {
	random := rand.New(rand.NewSource(69))
	all := large()
	for i, a := range all {
		for k, b := range all {
			p, e := dfa.Product(a, b)
			if e == api.ErrLimit {
				continue
			}
			if e != api.OK || !valid(p) {
				t.Fatalf("%d and %d: %s", i, k, e.Name())
			}
			for n := range 10 {
				word := likely(random, []dfa.DFA{a, b, p}[n%3])
				if accepted(p, word) != (accepted(a, word) && accepted(b, word)) {
					t.Fatalf("%d and %d: %v", i, k, word)
				}
			}
		}
	}
}

// P6.1: pairs that are not reached, letters that only one has, and a start that leads nowhere.
func TestProductByHand(t *testing.T) {
	a := made(3, 2, []int{0, 1}, nfa.Arc{From: 2, Letter: 4, To: 0}, nfa.Arc{From: 2, Letter: 3, To: 1}, nfa.Arc{From: 0, Letter: 1, To: 2}, nfa.Arc{From: 1, Letter: 9, To: 1}, nfa.Arc{From: 1, Letter: 10000, To: 0})
	b := made(2, 1, []int{0}, nfa.Arc{From: 1, Letter: 3, To: 0}, nfa.Arc{From: 1, Letter: 4, To: 1}, nfa.Arc{From: 1, Letter: 5, To: 0}, nfa.Arc{From: 0, Letter: 8, To: 1}, nfa.Arc{From: 0, Letter: 10000, To: 0})
	sameDFA(t, "by hand", must(dfa.Product(a, b)), made(4, 0, []int{1, 3}, nfa.Arc{From: 0, Letter: 3, To: 1}, nfa.Arc{From: 0, Letter: 4, To: 2}, nfa.Arc{From: 1, Letter: 10000, To: 3}))
	sameDFA(t, "nothing", must(dfa.Product(a, nothing())), nothing())
	sameDFA(t, "without a common letter", must(dfa.Product(chain(1, 2), chain(2, 1))), nothing())
	sameDFA(t, "the empty word", must(dfa.Product(star(1), chain())), chain())
	sameDFA(t, "useless pairs", must(dfa.Product(chain(1, 2), chain(1, 3))), made(2, 0, nil, nfa.Arc{From: 0, Letter: 1, To: 1}))
	sameDFA(t, "itself", must(dfa.Product(cycle(1000, 20, 5), cycle(1000, 20, 5))), cycle(1000, 20, 5))
}

// P6.1: ErrLimit if there are more than 1000 states, or more than 20000 arcs, and none with exactly so many.
func TestProductLimits(t *testing.T) {
	extra := func(d dfa.DFA) dfa.DFA {
		return made(d.States, 0, nil, append(d.Arcs, nfa.Arc{From: 0, Letter: 9999, To: 0})...)
	}
	for i, c := range []struct {
		a, b         dfa.DFA
		states, arcs int
		e            api.Errno
	}{
		{cycle(8, 1), cycle(125, 1), 1000, 1000, api.OK}, {cycle(7, 1), cycle(143, 1), 0, 0, api.ErrLimit}, {cycle(143, 1, 0), cycle(7, 1, 3), 0, 0, api.ErrLimit}, {cycle(27, 2), cycle(37, 2), 999, 1998, api.OK},
		{cycle(2, 2000), cycle(5, 2000), 10, 20000, api.OK}, {extra(cycle(2, 2000)), extra(cycle(5, 2000)), 0, 0, api.ErrLimit}, {extra(cycle(2, 2000)), cycle(5, 2000), 10, 20000, api.OK}, {cycle(2, 4000), cycle(3, 4000), 0, 0, api.ErrLimit},
		{cycle(8, 20), cycle(125, 20), 1000, 20000, api.OK}, {cycle(1000, 20), cycle(999, 20), 0, 0, api.ErrLimit}, {cycle(1000, 20), cycle(1000, 20), 1000, 20000, api.OK}, {extra(cycle(8, 20)), extra(cycle(125, 20)), 0, 0, api.ErrLimit},
		{cycle(2, 10000), cycle(2, 10000), 2, 20000, api.OK}, {cycle(2, 10000), star(10000), 2, 20000, api.OK}, {cycle(2, 6667), cycle(3, 6666), 0, 0, api.ErrLimit}, {cycle(1000, 1), star(20), 1000, 1000, api.OK},
		{cycle(1000, 20), chain(slices.Repeat([]int{1}, 999)...), 1000, 999, api.OK}, {made(1000, 0, nil), made(1000, 0, nil), 1, 0, api.OK},
	} {
		p, e := dfa.Product(c.a, c.b)
		if e != c.e || p.States != c.states || len(p.Arcs) != c.arcs || len(p.Finals) != c.states || e == api.OK && !valid(p) {
			t.Errorf("%d: got %d states, %d arcs, %s", i, p.States, len(p.Arcs), e.Name())
		}
	}
}
