package dfa

import (
	"iter"

	"farandole/api"
	"farandole/nfa"
)

// explore returns the automaton of what is reached from a start, in canonical numbering, if it is not too large. Steps enumerates what something leads to, by ascending letters.
func explore[T comparable](start T, final func(T) bool, steps func(T) iter.Seq2[int, T]) (DFA, api.Errno) {
	var d DFA
	numbers := map[T]int{start: 0}
	reached := []T{start}
	for from := 0; from < len(reached); from++ {
		d.Finals = append(d.Finals, final(reached[from]))
		for letter, next := range steps(reached[from]) {
			to, known := numbers[next]
			if !known {
				to = len(reached)
				numbers[next] = to
				reached = append(reached, next)
			}
			d.Arcs = append(d.Arcs, nfa.Arc{From: from, Letter: letter, To: to})
		}
		if len(reached) > MaxStates || len(d.Arcs) > MaxArcs {
			return DFA{}, api.ErrLimit
		}
	}
	d.States = len(reached)
	return d, api.OK
}

// renumbered returns the canonical automaton of the states that are reached if each arc leads to the state in place of its own one, or nowhere if that is none. The start state stays.
func renumbered(d DFA, place []int) DFA {
	out := outs(d)
	steps := func(n int) iter.Seq2[int, int] {
		return func(yield func(int, int) bool) {
			for _, x := range out[n] {
				if to := place[x.To]; to != none && !yield(x.Letter, to) {
					return
				}
			}
		}
	}
	// It has no more states and arcs than the given one.
	r, _ := explore(d.Start, func(n int) bool { return d.Finals[n] }, steps)
	return r
}

// trimmed returns the automaton of the useful states, or of the start state alone if it is not useful.
func trimmed(d DFA) DFA {
	place := states(d)
	for n, yes := range live(d) {
		if !yes {
			place[n] = none
		}
	}
	return renumbered(d, place)
}

// live reports for each state whether a final state is reached from it.
func live(d DFA) []bool {
	before := sources(d)
	var queue []int
	found := make([]bool, d.States)
	for n, final := range d.Finals {
		if final {
			found[n] = true
			queue = append(queue, n)
		}
	}
	for head := 0; head < len(queue); head++ {
		for _, n := range before[queue[head]] {
			if !found[n] {
				found[n] = true
				queue = append(queue, n)
			}
		}
	}
	return found
}
