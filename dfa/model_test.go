package dfa_test

import (
	"cmp"
	"maps"
	"math"
	"math/rand"
	"slices"
	"testing"

	"farandole/api"
	"farandole/dfa"
	"farandole/nfa"
)

// must returns a result that comes without an error.
func must[T any](result T, e api.Errno) T {
	if e != api.OK {
		panic("an error: " + e.Name())
	}
	return result
}

// valid reports whether an automaton is valid, by the definition.
func valid(d dfa.DFA) bool {
	if d.States < 1 || d.States > 1000 || d.Start < 0 || d.Start >= d.States || len(d.Finals) != d.States || len(d.Arcs) > 20000 {
		return false
	}
	for i, x := range d.Arcs {
		if x.From < 0 || x.From >= d.States || x.To < 0 || x.To >= d.States || x.Letter < 1 || x.Letter > 10000 {
			return false
		}
		if i > 0 && (x.From < d.Arcs[i-1].From || x.From == d.Arcs[i-1].From && x.Letter <= d.Arcs[i-1].Letter) {
			return false
		}
	}
	return true
}

// equal reports whether two automata have the same fields.
func equal(a, b dfa.DFA) bool {
	return a.States == b.States && a.Start == b.Start && slices.Equal(a.Finals, b.Finals) && slices.Equal(a.Arcs, b.Arcs)
}

// sameDFA tests that a returned automaton is valid and has these fields.
func sameDFA(t *testing.T, what string, d, want dfa.DFA) {
	t.Helper()
	if !valid(d) {
		t.Fatalf("%s: not valid: %.2000v", what, d)
	}
	if !equal(d, want) {
		t.Fatalf("%s: got %.2000v, want %.2000v", what, d, want)
	}
}

// made returns an automaton of sorted arcs; for each state and letter it has the first one that is given.
func made(states, start int, finals []int, arcs ...nfa.Arc) dfa.DFA {
	d := dfa.DFA{States: states, Start: start, Finals: make([]bool, states)}
	for _, n := range finals {
		d.Finals[n] = true
	}
	by := func(x, y nfa.Arc) int {
		return cmp.Or(cmp.Compare(x.From, y.From), cmp.Compare(x.Letter, y.Letter))
	}
	slices.SortStableFunc(arcs, by)
	d.Arcs = slices.CompactFunc(arcs, func(x, y nfa.Arc) bool { return by(x, y) == 0 })
	return d
}

// nothing is the automaton that accepts no word, and has one state.
func nothing() dfa.DFA { return made(1, 0, nil) }

// states returns the numbers of all states.
func states(d dfa.DFA) []int {
	var l []int
	for n := range d.States {
		l = append(l, n)
	}
	return l
}

// read returns the state to which a word leads.
func read(d dfa.DFA, word []int) (int, bool) {
	n := d.Start
	for _, letter := range word {
		i := slices.IndexFunc(d.Arcs, func(x nfa.Arc) bool { return x.From == n && x.Letter == letter })
		if i < 0 {
			return 0, false
		}
		n = d.Arcs[i].To
	}
	return n, true
}

// accepted reports whether a word leads to a final state.
func accepted(d dfa.DFA, word []int) bool {
	n, ok := read(d, word)
	return ok && d.Finals[n]
}

// letters returns the letters of automata, in ascending order.
func letters(all ...dfa.DFA) []int {
	seen := map[int]bool{}
	for _, d := range all {
		for _, x := range d.Arcs {
			seen[x.Letter] = true
		}
	}
	return slices.Sorted(maps.Keys(seen))
}

// words calls f with all words over some letters up to a length, in order, until it returns false.
func words(letters []int, longest int, f func(word []int) bool) {
	level := [][]int{nil}
	for length := 0; length <= longest; length++ {
		var longer [][]int
		for _, word := range level {
			if !f(word) {
				return
			}
			for _, letter := range letters {
				longer = append(longer, append(slices.Clone(word), letter))
			}
		}
		level = longer
	}
}

// less reports whether a word stands ahead of another one in the order of words.
func less(a, b []int) bool {
	if len(a) != len(b) {
		return len(a) < len(b)
	}
	return slices.Compare(a, b) < 0
}

// numbered returns the canonical automaton of what is reached from a start: each thing has the number of the least word that leads to it, among all of these words. An arc is taken again as long as it leads by a lesser word.
func numbered[T comparable](start T, final func(T) bool, steps func(T) map[int]T) dfa.DFA {
	least := map[T][]int{start: nil}
	for again := true; again; {
		again = false
		for from, word := range maps.Clone(least) {
			for letter, to := range steps(from) {
				longer := append(slices.Clone(word), letter)
				if old, ok := least[to]; !ok || less(longer, old) {
					least[to], again = longer, true
				}
			}
		}
	}
	all := slices.SortedFunc(maps.Keys(least), func(x, y T) int {
		if less(least[x], least[y]) {
			return -1
		}
		return 1
	})
	d := dfa.DFA{States: len(all)}
	var arcs []nfa.Arc
	for n, from := range all {
		d.Finals = append(d.Finals, final(from))
		for letter, to := range steps(from) {
			arcs = append(arcs, nfa.Arc{From: n, Letter: letter, To: slices.Index(all, to)})
		}
	}
	d.Arcs = made(1, 0, nil, arcs...).Arcs
	return d
}

// leads returns the steps of a state to states that are kept.
func leads(d dfa.DFA, n int, kept func(n int) bool) map[int]int {
	l := map[int]int{}
	for _, x := range d.Arcs {
		if x.From == n && kept(x.To) {
			l[x.Letter] = x.To
		}
	}
	return l
}

// canonical returns the canonical automaton of the states that are reached along states that are kept.
func canonical(d dfa.DFA, kept func(n int) bool) dfa.DFA {
	return numbered(d.Start, func(n int) bool { return d.Finals[n] }, func(n int) map[int]int { return leads(d, n, kept) })
}

// completed reports for each state whether a final state is reached from it (as long as an arc adds a state, all arcs are tried again).
func completed(d dfa.DFA) []bool {
	in := slices.Clone(d.Finals)
	for again := true; again; {
		again = false
		for _, x := range d.Arcs {
			if in[x.To] && !in[x.From] {
				in[x.From], again = true, true
			}
		}
	}
	return in
}

// trimmed returns the canonical automaton of the useful states.
func trimmed(d dfa.DFA) dfa.DFA {
	in := completed(d)
	return canonical(d, func(n int) bool { return in[n] })
}

// differ tells for each pair of states whether different words follow them; the number of states stands for where no word follows.
func differ(d dfa.DFA) [][]bool {
	n := d.States
	all := letters(d)
	to := make([]map[int]int, n+1)
	unlike := make([][]bool, n+1)
	for p := range n + 1 {
		to[p], unlike[p] = leads(d, p, func(int) bool { return true }), make([]bool, n+1)
		for q := range n + 1 {
			unlike[p][q] = (p < n && d.Finals[p]) != (q < n && d.Finals[q])
		}
	}
	target := func(p, letter int) int {
		if t, ok := to[p][letter]; ok {
			return t
		}
		return n
	}
	for again := true; again; {
		again = false
		for p := range n + 1 {
			for q := range n + 1 {
				if !unlike[p][q] && slices.ContainsFunc(all, func(letter int) bool { return unlike[target(p, letter)][target(q, letter)] }) {
					unlike[p][q], again = true, true
				}
			}
		}
	}
	return unlike
}

// minimal returns the minimal automaton: of the states that the same words follow, one takes the place of all.
func minimal(d dfa.DFA) dfa.DFA {
	unlike := differ(d)
	place := func(n int) int { return slices.Index(unlike[n], false) }
	kept := func(n int) bool { return unlike[n][d.States] }
	return numbered(place(d.Start), func(n int) bool { return d.Finals[n] }, func(n int) map[int]int {
		l := leads(d, n, kept)
		for letter, to := range maps.Clone(l) {
			l[letter] = place(to)
		}
		return l
	})
}

// arcs calls f with each list of arcs of so many states with the letters 1 and 2.
func arcs(states int, f func(l []nfa.Arc)) {
	places := 2 * states
	choices := int(math.Pow(float64(states+1), float64(places)))
	for code := range choices {
		var l []nfa.Arc
		for i := range places {
			if to := code % (states + 1); to > 0 {
				l = append(l, nfa.Arc{From: i / 2, Letter: 1 + i%2, To: to - 1})
			}
			code /= states + 1
		}
		f(l)
	}
}

// small calls f with each automaton of at most 2 states, with no other letters than 1 and 2.
func small(f func(d dfa.DFA)) {
	for states := 1; states <= 2; states++ {
		for start := range states {
			for code := range 1 << states {
				arcs(states, func(l []nfa.Arc) {
					d := dfa.DFA{States: states, Start: start, Arcs: l}
					for n := range states {
						d.Finals = append(d.Finals, code>>n&1 == 1)
					}
					f(d)
				})
			}
		}
	}
}

// three calls f with each automaton of 3 states with no other letters than 1 and 2, whose start state is 0, and 1 or 2 of whose states are final, one of these the state 2.
func three(f func(d dfa.DFA)) {
	for _, finals := range [][]int{{2}, {0, 2}, {1, 2}} {
		arcs(3, func(l []nfa.Arc) { f(made(3, 0, finals, l...)) })
	}
}

// mixed returns an automaton as a random source has it: most of its states are reached, and there are about so many arcs more for each state.
func mixed(random *rand.Rand, states, letters int, each float64) dfa.DFA {
	at := random.Perm(states)
	var finals []int
	var l []nfa.Arc
	for i, n := range at {
		if random.Intn(4) == 0 {
			finals = append(finals, n)
		}
		if i > 0 {
			l = append(l, nfa.Arc{From: at[max(0, i-1-random.Intn(3))], Letter: 1 + random.Intn(letters), To: n})
		}
	}
	for range int(each * float64(states)) {
		l = append(l, nfa.Arc{From: random.Intn(states), Letter: 1 + random.Intn(letters), To: random.Intn(states)})
	}
	return made(states, at[0], finals, l...)
}

// shuffled returns an automaton that accepts the same words: each state has a random number, and some states that are not useful are added.
func shuffled(random *rand.Rand, d dfa.DFA) dfa.DFA {
	more := random.Intn(4)
	at := random.Perm(d.States + more)
	var finals []int
	var l []nfa.Arc
	for n, final := range d.Finals {
		if final {
			finals = append(finals, at[n])
		}
	}
	for _, x := range d.Arcs {
		l = append(l, nfa.Arc{From: at[x.From], Letter: x.Letter, To: at[x.To]})
	}
	for i := range more {
		n := at[d.States+i]
		l = append(l, nfa.Arc{From: n, Letter: 1 + random.Intn(3), To: at[random.Intn(d.States+more)]})
		if i%2 == 0 {
			finals = append(finals, n) // not reached
		}
	}
	return made(d.States+more, at[d.Start], finals, l...)
}

// copies returns an automaton that accepts the same words, with each state several times: an arc leads to one of the copies of its state.
func copies(random *rand.Rand, d dfa.DFA, count int) dfa.DFA {
	var finals []int
	var l []nfa.Arc
	for copy := range count {
		for n, final := range d.Finals {
			if final {
				finals = append(finals, copy*d.States+n)
			}
		}
		for _, x := range d.Arcs {
			l = append(l, nfa.Arc{From: copy*d.States + x.From, Letter: x.Letter, To: random.Intn(count)*d.States + x.To})
		}
	}
	return made(count*d.States, random.Intn(count)*d.States+d.Start, finals, l...)
}

// cycle returns an automaton of so many states in a cycle, with the letters 1 to count, that accepts the words that end at some of them.
func cycle(states, count int, finals ...int) dfa.DFA {
	var l []nfa.Arc
	for n := range states {
		for i := range count {
			l = append(l, nfa.Arc{From: n, Letter: i + 1, To: (n + 1) % states})
		}
	}
	return made(states, 0, finals, l...)
}

// chain returns an automaton of a single path with the letters of a word, that accepts this word alone.
func chain(word ...int) dfa.DFA {
	var l []nfa.Arc
	for i, letter := range word {
		l = append(l, nfa.Arc{From: i, Letter: letter, To: i + 1})
	}
	return made(len(word)+1, 0, []int{len(word)}, l...)
}

// sample is the example of the chapter.
func sample() dfa.DFA {
	return made(3, 0, []int{1, 2}, nfa.Arc{From: 0, Letter: 1, To: 1}, nfa.Arc{From: 1, Letter: 1, To: 2}, nfa.Arc{From: 2, Letter: 1, To: 1})
}

// examples are automata of many shapes, with at most 24 states.
func examples() []dfa.DFA {
	random := rand.New(rand.NewSource(6))
	l := []dfa.DFA{
		nothing(), {States: 1, Finals: []bool{true}, Arcs: []nfa.Arc{}}, sample(), chain(5, 4, 9), chain(10000), cycle(1, 1, 0), cycle(4, 1, 1), cycle(6, 2, 0, 3), cycle(6, 2, 0, 2), cycle(5, 3),
		made(2, 1, []int{0}), made(2, 1, []int{1}), made(2, 1, []int{0}, nfa.Arc{From: 1, Letter: 7, To: 0}), made(2, 0, []int{1}, nfa.Arc{From: 1, Letter: 7, To: 0}),
		made(3, 0, []int{1}, nfa.Arc{From: 0, Letter: 1, To: 1}, nfa.Arc{From: 0, Letter: 2, To: 2}, nfa.Arc{From: 2, Letter: 1, To: 2}),
		made(4, 2, []int{3, 0}, nfa.Arc{From: 2, Letter: 9, To: 0}, nfa.Arc{From: 2, Letter: 10000, To: 3}, nfa.Arc{From: 3, Letter: 2, To: 1}, nfa.Arc{From: 0, Letter: 3, To: 1}, nfa.Arc{From: 1, Letter: 1, To: 2}),
	}
	for _, each := range []float64{0, 0.3, 0.7, 1.5, 3} {
		for range 12 {
			l = append(l, mixed(random, 1+random.Intn(9), 2+random.Intn(3), each))
		}
	}
	for _, d := range slices.Clone(l[:40]) {
		if d.States <= 8 {
			l = append(l, copies(random, d, 2+random.Intn(2)), shuffled(random, d))
		}
	}
	return l
}

// star returns an automaton of one state with a loop for each of the letters 1 to count.
func star(count int) dfa.DFA { return cycle(1, count, 0) }

// large are automata with 1000 states, or with 20000 arcs.
func large() []dfa.DFA {
	random := rand.New(rand.NewSource(600))
	full := cycle(2, 10000, 1)
	far := cycle(1000, 20, 999)
	far.Start = 500
	return []dfa.DFA{
		made(1000, 999, []int{999}), made(1000, 0, states(cycle(1000, 1))), chain(slices.Repeat([]int{10000}, 999)...), full, far, star(10000),
		mixed(random, 1000, 2, 1.3), mixed(random, 1000, 3, 2.5), mixed(random, 1000, 10000, 19), mixed(random, 100, 150, 200),
		copies(random, mixed(random, 20, 3, 2), 50), cycle(1000, 1, 0, 250, 500, 750), cycle(1000, 20, 0, 999),
	}
}

// wrong are automata that are not valid.
func wrong() []dfa.DFA {
	arc := func(from, letter, to int) dfa.DFA {
		return dfa.DFA{States: 2, Finals: make([]bool, 2), Arcs: []nfa.Arc{{From: from, Letter: letter, To: to}}}
	}
	pair := func(x, y nfa.Arc) dfa.DFA {
		return dfa.DFA{States: 2, Finals: make([]bool, 2), Arcs: []nfa.Arc{x, y}}
	}
	start := func(n int) dfa.DFA { return dfa.DFA{States: 3, Start: n, Finals: make([]bool, 3)} }
	more := cycle(2, 10000, 1)
	more.States, more.Finals, more.Arcs = 3, make([]bool, 3), append(more.Arcs, nfa.Arc{From: 2, Letter: 1, To: 0})
	return []dfa.DFA{
		{}, {Finals: []bool{}}, {States: -1}, {States: -1, Finals: []bool{true}}, {States: 1}, {Finals: []bool{false}}, {States: 2, Finals: make([]bool, 1)}, {States: 2, Finals: make([]bool, 3)},
		{States: math.MinInt}, {States: math.MaxInt}, {States: math.MaxInt, Finals: make([]bool, 4)}, {Arcs: []nfa.Arc{{From: 0, Letter: 1, To: 0}}},
		start(-1), start(3), start(4), start(math.MinInt), start(math.MaxInt),
		arc(2, 1, 0), arc(-1, 1, 0), arc(0, 1, 2), arc(0, 1, -1), arc(0, 0, 0), arc(0, -1, 0), arc(0, 10001, 0), arc(0, math.MaxInt, 0), arc(0, math.MinInt, 0),
		arc(math.MaxInt, 1, 0), arc(math.MinInt, 1, 0), arc(0, 1, math.MaxInt), arc(0, 1, math.MinInt), arc(1, 0, 1), arc(1, 10001, 1),
		pair(nfa.Arc{From: 0, Letter: 1, To: 1}, nfa.Arc{From: 0, Letter: 1, To: 1}), pair(nfa.Arc{From: 0, Letter: 1, To: 1}, nfa.Arc{From: 0, Letter: 1, To: 0}), pair(nfa.Arc{From: 0, Letter: 1, To: 0}, nfa.Arc{From: 0, Letter: 1, To: 1}),
		pair(nfa.Arc{From: 0, Letter: 2, To: 0}, nfa.Arc{From: 0, Letter: 1, To: 1}), pair(nfa.Arc{From: 1, Letter: 1, To: 0}, nfa.Arc{From: 0, Letter: 2, To: 1}),
		pair(nfa.Arc{From: 0, Letter: 1, To: 0}, nfa.Arc{From: 2, Letter: 1, To: 0}), pair(nfa.Arc{From: 0, Letter: 1, To: 0}, nfa.Arc{From: 1, Letter: 0, To: 0}), pair(nfa.Arc{From: 0, Letter: 0, To: 0}, nfa.Arc{From: 0, Letter: 1, To: 0}),
		{States: 1001, Finals: make([]bool, 1001)}, chain(slices.Repeat([]int{1}, 1000)...), more,
	}
}
