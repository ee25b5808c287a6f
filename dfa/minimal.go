package dfa

import "slices"

// signature tells the states of a class apart: the number of what is known of their arcs with lesser letters, and a letter with the class to which it leads.
type signature struct{ ahead, letter, class int }

// firstAlike returns for each state of an automaton without useless states the first state that is followed by the same words.
func firstAlike(d DFA) []int {
	class := classes(d)
	first := make([]int, d.States)
	for n := range first {
		first[n] = slices.Index(class, class[n])
	}
	return first
}

// classes returns for each state of an automaton without useless states the number of its class. States of a class are followed by the same words.
func classes(d DFA) []int {
	class := make([]int, d.States)
	for n, final := range d.Finals {
		if final {
			class[n] = 1
		}
	}
	count := 2
	moved := slices.Repeat([]bool{true}, d.States)
	// The states of a class differ only in their arcs to states that have moved to another class since the arcs were compared.
	for slices.Contains(moved, true) {
		part, parts := partsOf(d, class, count, moved)
		moved, count = split(class, count, part, parts)
	}
	return class
}

// partsOf returns for each state a number, and a bound of these numbers. States have the same one if they are of the same class, and their arcs to moved states have the same letters and lead to the same classes.
func partsOf(d DFA, class []int, count int, moved []bool) ([]int, int) {
	part := slices.Clone(class)
	numbers := map[signature]int{}
	for _, x := range d.Arcs {
		if !moved[x.To] {
			continue
		}
		s := signature{part[x.From], x.Letter, class[x.To]}
		number, known := numbers[s]
		if !known {
			number = count + len(numbers)
			numbers[s] = number
		}
		part[x.From] = number
	}
	return part, count + len(numbers)
}

// split makes a class of each part of a class, and returns which states have moved and the number of classes. The largest part stays what it was: so a state moves only to a class of at most half the size, which is seldom.
func split(class []int, count int, part []int, parts int) ([]bool, int) {
	largest := largestParts(class, count, part, parts)
	number := slices.Repeat([]int{none}, parts)
	moved := make([]bool, len(class))
	for n, p := range part {
		if p == largest[class[n]] {
			continue
		}
		if number[p] == none {
			number[p] = count
			count++
		}
		class[n] = number[p]
		moved[n] = true
	}
	return moved, count
}

// largestParts returns for each class its largest part, or none if the class is empty.
func largestParts(class []int, count int, part []int, parts int) []int {
	size := make([]int, parts)
	for _, p := range part {
		size[p]++
	}
	largest := slices.Repeat([]int{none}, count)
	for n, p := range part {
		if l := largest[class[n]]; l == none || size[p] > size[l] {
			largest[class[n]] = p
		}
	}
	return largest
}
