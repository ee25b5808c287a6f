package dfa_test

import (
	"math/rand"
	"slices"
	"testing"

	"farandole/dfa"
	"farandole/nfa"
)

// testForms tests Canonical, Trim and Minimize with their models.
func testForms(t *testing.T, d dfa.DFA) {
	t.Helper()
	sameDFA(t, "Canonical", must(dfa.Canonical(d)), canonical(d, func(int) bool { return true }))
	sameDFA(t, "Trim", must(dfa.Trim(d)), trimmed(d))
	sameDFA(t, "Minimize", must(dfa.Minimize(d)), minimal(d))
}

// P6.1, P6.3: the canonical automata of the reached states, of the useful ones, and of the classes of states.
func TestForms(t *testing.T) {
	small(func(d dfa.DFA) { testForms(t, d) })
	three(func(d dfa.DFA) { testForms(t, d) })
	for _, d := range examples() {
		testForms(t, d)
	}
}

// P6.1, P6.3: many automata with up to 30 states, as they are and with their states several times.
func TestFormsMixed(t *testing.T) {
	random := rand.New(rand.NewSource(63))
	for range 1000 {
		d := mixed(random, 1+random.Intn(10), 2+random.Intn(4), 2*random.Float64())
		testForms(t, d)
		testForms(t, copies(random, d, 2))
		testForms(t, shuffled(random, copies(random, d, 3)))
	}
	for range 20 {
		testForms(t, mixed(random, 30, 4, random.Float64()))
	}
}

// sameWords tests that two automata accept the same ones of some words.
func sameWords(t *testing.T, what string, random *rand.Rand, a, b dfa.DFA) {
	t.Helper()
	for i := range 40 {
		word := likely(random, []dfa.DFA{a, b}[i%2])
		if accepted(a, word) != accepted(b, word) {
			t.Fatalf("%s: %v is accepted: %v and %v", what, word, accepted(a, word), accepted(b, word))
		}
	}
}

// P6.2: Canonical, Trim and Minimize accept the same words.
func TestLanguages(t *testing.T) {
	small(func(d dfa.DFA) {
		c, r, m := must(dfa.Canonical(d)), must(dfa.Trim(d)), must(dfa.Minimize(d))
		words([]int{1, 2}, 4, func(word []int) bool {
			if want := accepted(d, word); accepted(c, word) != want || accepted(r, word) != want || accepted(m, word) != want {
				t.Fatalf("%v: %v", d, word)
			}
			return true
		})
	})
	random := rand.New(rand.NewSource(64))
	for _, d := range append(examples(), large()...) {
		sameWords(t, "Canonical", random, d, must(dfa.Canonical(d)))
		sameWords(t, "Trim", random, d, must(dfa.Trim(d)))
		sameWords(t, "Minimize", random, d, must(dfa.Minimize(d)))
	}
}

// P6.1: large automata, whose states stand in another order.
func TestFormsOfLarge(t *testing.T) {
	random := rand.New(rand.NewSource(65))
	test := func(what string, d dfa.DFA, canonical, trim, minimize int) {
		t.Helper()
		c, r, m := must(dfa.Canonical(d)), must(dfa.Trim(d)), must(dfa.Minimize(d))
		if c.States != canonical || r.States != trim || m.States != minimize || !valid(c) || !valid(r) || !valid(m) {
			t.Errorf("%s: %d, %d and %d states, want %d, %d and %d", what, c.States, r.States, m.States, canonical, trim, minimize)
		}
	}
	reversed := func(d dfa.DFA) dfa.DFA {
		last := d.States - 1
		r := dfa.DFA{States: d.States, Start: last - d.Start, Finals: slices.Clone(d.Finals)}
		slices.Reverse(r.Finals)
		var l []nfa.Arc
		for _, x := range d.Arcs {
			l = append(l, nfa.Arc{From: last - x.From, Letter: x.Letter, To: last - x.To})
		}
		r.Arcs = made(1, 0, nil, l...).Arcs
		return r
	}
	for _, turn := range []func(dfa.DFA) dfa.DFA{func(d dfa.DFA) dfa.DFA { return d }, reversed} {
		test("without arcs", turn(made(1000, 999, []int{999})), 1, 1, 1)
		test("a long word", turn(chain(slices.Repeat([]int{10000}, 999)...)), 1000, 1000, 1000)
		test("a cycle", turn(cycle(1000, 20, 7)), 1000, 1000, 1000)
		test("a cycle of four times the same", turn(cycle(1000, 20, 7, 257, 507, 757)), 1000, 1000, 250)
		test("almost four times the same", turn(cycle(1000, 20, 7, 257, 507, 758)), 1000, 1000, 1000)
		test("a cycle of final states", turn(cycle(1000, 20, states(cycle(1000, 1))...)), 1000, 1000, 1)
		test("a cycle without final states", turn(cycle(1000, 20)), 1000, 1, 1)
		test("all letters", turn(cycle(2, 10000, 0)), 2, 2, 2)
	}
	small := made(5, 0, []int{4}, nfa.Arc{From: 0, Letter: 1, To: 1}, nfa.Arc{From: 0, Letter: 2, To: 2}, nfa.Arc{From: 1, Letter: 1, To: 3}, nfa.Arc{From: 2, Letter: 2, To: 3}, nfa.Arc{From: 3, Letter: 1, To: 4}, nfa.Arc{From: 4, Letter: 3, To: 0}, nfa.Arc{From: 4, Letter: 4, To: 4})
	sameDFA(t, "many copies", must(dfa.Minimize(copies(random, small, 200))), minimal(small))
}

// P6.1: the numbers are by breadth and then by letters, not those of the states.
func TestFormsByHand(t *testing.T) {
	// The state 1 is not reached, 5 does not lead on, and 0 and 4 are followed by the same words.
	d := made(6, 3, []int{0, 4},
		nfa.Arc{From: 3, Letter: 9, To: 0}, nfa.Arc{From: 3, Letter: 2, To: 4}, nfa.Arc{From: 3, Letter: 5, To: 5}, nfa.Arc{From: 3, Letter: 7, To: 2}, nfa.Arc{From: 4, Letter: 1, To: 3}, nfa.Arc{From: 0, Letter: 1, To: 3},
		nfa.Arc{From: 2, Letter: 10000, To: 0}, nfa.Arc{From: 2, Letter: 1, To: 2}, nfa.Arc{From: 5, Letter: 1, To: 5}, nfa.Arc{From: 1, Letter: 1, To: 0})
	sameDFA(t, "Canonical", must(dfa.Canonical(d)), made(5, 0, []int{1, 4},
		nfa.Arc{From: 0, Letter: 2, To: 1}, nfa.Arc{From: 0, Letter: 5, To: 2}, nfa.Arc{From: 0, Letter: 7, To: 3}, nfa.Arc{From: 0, Letter: 9, To: 4},
		nfa.Arc{From: 1, Letter: 1, To: 0}, nfa.Arc{From: 2, Letter: 1, To: 2}, nfa.Arc{From: 3, Letter: 1, To: 3}, nfa.Arc{From: 3, Letter: 10000, To: 4}, nfa.Arc{From: 4, Letter: 1, To: 0}))
	sameDFA(t, "Trim", must(dfa.Trim(d)), made(4, 0, []int{1, 3},
		nfa.Arc{From: 0, Letter: 2, To: 1}, nfa.Arc{From: 0, Letter: 7, To: 2}, nfa.Arc{From: 0, Letter: 9, To: 3},
		nfa.Arc{From: 1, Letter: 1, To: 0}, nfa.Arc{From: 2, Letter: 1, To: 2}, nfa.Arc{From: 2, Letter: 10000, To: 3}, nfa.Arc{From: 3, Letter: 1, To: 0}))
	sameDFA(t, "Minimize", must(dfa.Minimize(d)), made(3, 0, []int{1},
		nfa.Arc{From: 0, Letter: 2, To: 1}, nfa.Arc{From: 0, Letter: 7, To: 2}, nfa.Arc{From: 0, Letter: 9, To: 1},
		nfa.Arc{From: 1, Letter: 1, To: 0}, nfa.Arc{From: 2, Letter: 1, To: 2}, nfa.Arc{From: 2, Letter: 10000, To: 1}))
	sameDFA(t, "the example", must(dfa.Minimize(sample())), made(2, 0, []int{1}, nfa.Arc{From: 0, Letter: 1, To: 1}, nfa.Arc{From: 1, Letter: 1, To: 1}))
}

// P6.1: without accepted words there is one state, which is not final, and no arcs.
func TestFormsOfNothing(t *testing.T) {
	for _, d := range append(examples(), large()...) {
		d.Finals = make([]bool, d.States)
		sameDFA(t, "Trim", must(dfa.Trim(d)), nothing())
		sameDFA(t, "Minimize", must(dfa.Minimize(d)), nothing())
	}
	unreached := made(3, 1, []int{0, 2}, nfa.Arc{From: 0, Letter: 1, To: 1}, nfa.Arc{From: 1, Letter: 2, To: 1})
	sameDFA(t, "Trim", must(dfa.Trim(unreached)), nothing())
	sameDFA(t, "Minimize", must(dfa.Minimize(unreached)), nothing())
	sameDFA(t, "Canonical", must(dfa.Canonical(unreached)), made(1, 0, nil, nfa.Arc{From: 0, Letter: 2, To: 0}))
}

// P6.3: the forms of a form are the form itself.
func TestIdempotent(t *testing.T) {
	random := rand.New(rand.NewSource(66))
	test := func(d dfa.DFA) {
		c, r, m := must(dfa.Canonical(d)), must(dfa.Trim(d)), must(dfa.Minimize(d))
		sameDFA(t, "Canonical twice", must(dfa.Canonical(c)), c)
		sameDFA(t, "Trim twice", must(dfa.Trim(r)), r)
		sameDFA(t, "Canonical of Trim", must(dfa.Canonical(r)), r)
		sameDFA(t, "Minimize twice", must(dfa.Minimize(m)), m)
		sameDFA(t, "Trim of Minimize", must(dfa.Trim(m)), m)
		sameDFA(t, "Minimize of Canonical", must(dfa.Minimize(c)), m)
		sameDFA(t, "Minimize of Trim", must(dfa.Minimize(r)), m)
		if d.States <= 990 && len(d.Arcs) <= 19990 {
			sameDFA(t, "Minimize of other numbers", must(dfa.Minimize(shuffled(random, d))), m)
		}
		if d.States <= 400 && len(d.Arcs) <= 10000 {
			sameDFA(t, "Minimize of copies", must(dfa.Minimize(copies(random, d, 2))), m)
		}
	}
	small(test)
	for _, d := range append(examples(), large()...) {
		test(d)
	}
}

// acceptance returns the set of the words of up to 5 letters 1 and 2 that an automaton accepts, as bits in their order.
func acceptance(d dfa.DFA) uint64 {
	var set uint64
	bit := uint64(1)
	words([]int{1, 2}, 5, func(word []int) bool {
		if accepted(d, word) {
			set |= bit
		}
		bit <<= 1
		return true
	})
	return set
}

// P6.3: minimal automata are equal exactly for equal languages, and no automaton with less states accepts the same words. Automata of up to 2 states accept different words only if words of up to 4 letters show it.
func TestMinimalBySets(t *testing.T) {
	forms := map[uint64]dfa.DFA{}
	fewest := map[uint64]int{}
	small(func(d dfa.DFA) {
		set, m := acceptance(d), must(dfa.Minimize(d))
		if first, ok := forms[set]; ok && !equal(first, m) {
			t.Fatalf("%v: got %v, but an automaton of the same language has %v", d, m, first)
		}
		forms[set] = m
		if n, ok := fewest[set]; !ok || d.States < n {
			fewest[set] = d.States
		}
	})
	for set, m := range forms {
		if m.States > fewest[set] || acceptance(m) != set {
			t.Errorf("%v: %d states are enough", m, fewest[set])
		}
		for other, n := range forms {
			if other != set && equal(m, n) {
				t.Errorf("%v for two languages", m)
			}
		}
	}
}
