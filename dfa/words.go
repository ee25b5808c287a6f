package dfa

import (
	"slices"

	"farandole/nfa"
)

// speller spells the accepted words of an automaton. It goes on only where a word of the wanted length can be completed, and looks at the arcs of a state once for each number of letters that are left.
type speller struct {
	d      DFA
	out    [][]nfa.Arc
	before [][]int
	levels []level
	marked []int       // for each state, the last level for which it was found
	path   [][]nfa.Arc // for each letter of a word, its arc and, behind it, those that are still to be taken in its place
}

// level has the states from which words of a length, which is its index, are accepted, in ascending order. For each of them, it has the arcs by which these words begin, as soon as they are asked for.
type level struct {
	states []int
	begins [][]nfa.Arc
}

// newSpeller returns a speller that has the words without letters.
func newSpeller(d DFA) *speller {
	s := &speller{d: d, out: outs(d), before: sources(d), marked: make([]int, d.States)}
	var l []int
	for n, final := range d.Finals {
		if final {
			l = append(l, n)
		}
	}
	s.add(l)
	return s
}

// add adds a level.
func (s *speller) add(states []int) {
	s.levels = append(s.levels, level{states, make([][]nfa.Arc, len(states))})
}

// grow adds the level of the words that have one more letter.
func (s *speller) grow() {
	length := len(s.levels)
	var l []int
	for _, to := range s.levels[length-1].states {
		for _, n := range s.before[to] {
			if s.marked[n] != length {
				s.marked[n] = length
				l = append(l, n)
			}
		}
	}
	slices.Sort(l)
	s.add(l)
}

// has reports whether words of a length are accepted from a state, and where its level has it.
func (s *speller) has(state, length int) (int, bool) {
	return slices.BinarySearch(s.levels[length].states, state)
}

// begins returns the arcs of a state by which accepted words of a length, at least 1, begin. There must be such words.
func (s *speller) begins(state, length int) []nfa.Arc {
	i, _ := s.has(state, length)
	l := s.levels[length].begins
	if l[i] == nil {
		for _, x := range s.out[state] {
			if _, ok := s.has(x.To, length-1); ok {
				l[i] = append(l[i], x)
			}
		}
	}
	return l[i]
}

// spell appends the accepted words of a length to words, in order, until there are so many words.
func (s *speller) spell(words [][]int, length, most int) [][]int {
	if _, ok := s.has(s.d.Start, length); !ok {
		return words
	}
	s.path = s.path[:0]
	state := s.d.Start
	for {
		for len(s.path) < length {
			l := s.begins(state, length-len(s.path))
			s.path = append(s.path, l)
			state = l[0].To
		}
		words = append(words, spelled(s.path))
		if !s.turn() || len(words) == most {
			return words
		}
		state = s.path[len(s.path)-1][0].To
	}
}

// turn shortens the path to the last letter that has another arc, and takes this arc, if there is one.
func (s *speller) turn() bool {
	last := len(s.path) - 1
	for last >= 0 && len(s.path[last]) == 1 {
		last--
	}
	s.path = s.path[:last+1]
	if last < 0 {
		return false
	}
	s.path[last] = s.path[last][1:]
	return true
}

// spelled returns the letters of a path.
func spelled(path [][]nfa.Arc) []int {
	word := make([]int, len(path))
	for i, l := range path {
		word[i] = l[0].Letter
	}
	return word
}
