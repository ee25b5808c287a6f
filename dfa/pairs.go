package dfa

import (
	"iter"
	"slices"

	"farandole/api"
)

// pair is a state of an automaton and one of another automaton, or the number of the other one's states where it does not read the word.
type pair struct{ a, b int }

// trace is a pair that is reached by a letter from another one, whose index is ahead.
type trace struct {
	at            pair
	ahead, letter int
}

// together returns the function that enumerates what a pair leads to, by the letters that a reads.
func together(a, b DFA) func(p pair) iter.Seq2[int, pair] {
	outA, outB := outs(a), append(outs(b), nil)
	return func(p pair) iter.Seq2[int, pair] {
		return func(yield func(int, pair) bool) {
			rest := outB[p.b]
			for _, x := range outA[p.a] {
				for len(rest) > 0 && rest[0].Letter < x.Letter {
					rest = rest[1:]
				}
				to := pair{x.To, b.States}
				if len(rest) > 0 && rest[0].Letter == x.Letter {
					to.b = rest[0].To
				}
				if !yield(x.Letter, to) {
					return
				}
			}
		}
	}
}

// product returns the automaton of the pairs of states to which both automata read a word.
func product(a, b DFA) (DFA, api.Errno) {
	all := together(a, b)
	both := func(p pair) iter.Seq2[int, pair] {
		return func(yield func(int, pair) bool) {
			for letter, to := range all(p) {
				if to.b < b.States && !yield(letter, to) {
					return
				}
			}
		}
	}
	final := func(p pair) bool { return a.Finals[p.a] && b.Finals[p.b] }
	return explore(pair{a.Start, b.Start}, final, both)
}

// leastMissing returns the least word that a accepts and b does not, if there is one. Pairs are found in the order of the least words that lead to them.
func leastMissing(a, b DFA) ([]int, bool) {
	steps := together(a, b)
	// A list is faster here than a map, as there may be a million pairs, with twenty arcs each.
	seen := make([]bool, a.States*(b.States+1))
	index := func(p pair) int { return p.a*(b.States+1) + p.b }
	start := pair{a.Start, b.Start}
	seen[index(start)] = true
	queue := []trace{{at: start, ahead: none}}
	for head := 0; head < len(queue); head++ {
		at := queue[head].at
		if a.Finals[at.a] && (at.b == b.States || !b.Finals[at.b]) {
			return wordOf(queue, head), true
		}
		for letter, to := range steps(at) {
			if i := index(to); !seen[i] {
				seen[i] = true
				queue = append(queue, trace{to, head, letter})
			}
		}
	}
	return nil, false
}

// wordOf returns the word that leads to a pair of a list.
func wordOf(l []trace, i int) []int {
	var word []int
	for ; l[i].ahead != none; i = l[i].ahead {
		word = append(word, l[i].letter)
	}
	slices.Reverse(word)
	return word
}
