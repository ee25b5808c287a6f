package nfa_test

import (
	"math/rand"
	"slices"
	"testing"

	"farandole/nfa"
)

// backwards returns a word in the other direction.
func backwards(word []int) []int {
	back := slices.Clone(word)
	slices.Reverse(back)
	return back
}

// P5.1, P5.4: the arcs from To to From, the final states as start states, and the start states as final ones.
func TestReverse(t *testing.T) {
	small(func(a nfa.NFA) { sameNFA(t, "Reverse", must(nfa.Reverse(a)), turned(a)) })
	for _, a := range append(examples(), large()...) {
		sameNFA(t, "Reverse", must(nfa.Reverse(a)), turned(a))
	}
}

// P5.1, P5.4: the arcs are sorted again, and empty arcs are reversed, too.
func TestReverseByHand(t *testing.T) {
	a := nfa.NFA{States: 3, Start: []int{0, 1}, Finals: []bool{true, false, true}, Arcs: []nfa.Arc{{From: 0, Letter: 0, To: 2}, {From: 0, Letter: 4, To: 1}, {From: 1, Letter: 3, To: 1}, {From: 1, Letter: 10000, To: 0}, {From: 2, Letter: 3, To: 0}, {From: 2, Letter: 4, To: 1}}}
	sameNFA(t, "Reverse", must(nfa.Reverse(a)), nfa.NFA{States: 3, Start: []int{0, 2}, Finals: []bool{true, true, false}, Arcs: []nfa.Arc{{From: 0, Letter: 3, To: 2}, {From: 0, Letter: 10000, To: 1}, {From: 1, Letter: 3, To: 1}, {From: 1, Letter: 4, To: 0}, {From: 1, Letter: 4, To: 2}, {From: 2, Letter: 0, To: 0}}})
}

// P5.4: reversing twice restores the automaton.
func TestReverseTwice(t *testing.T) {
	small(func(a nfa.NFA) { sameNFA(t, "Reverse twice", must(nfa.Reverse(must(nfa.Reverse(a)))), a) })
	for _, a := range append(examples(), large()...) {
		sameNFA(t, "Reverse twice", must(nfa.Reverse(must(nfa.Reverse(a)))), a)
	}
}

// P5.4: the reversal accepts exactly the reversed words.
func TestReverseAccepts(t *testing.T) {
	small(func(a nfa.NFA) {
		r := must(nfa.Reverse(a))
		words([]int{1, 2}, 2, func(word []int) bool {
			if must(nfa.Accepts(r, backwards(word))) != accepted(a, word) {
				t.Fatalf("%v: %v", a, word)
			}
			return true
		})
	})
	random := rand.New(rand.NewSource(55))
	for _, a := range append(examples(), large()...) {
		r := must(nfa.Reverse(a))
		for range 30 {
			for _, word := range [][]int{likely(random, a), backwards(likely(random, r))} {
				if must(nfa.Accepts(r, backwards(word))) != accepted(a, word) {
					t.Fatalf("%v: %v", a, word)
				}
			}
		}
	}
}
