package nfa_test

import (
	"math/rand"
	"slices"
	"testing"

	"farandole/api"
	"farandole/bits"
	"farandole/nfa"
)

const mark = 123456789

// room returns a copy of a list, with room behind it that is marked.
func room[T any](l []T, marked T) []T {
	return append(slices.Clone(l), marked, marked, marked)[:len(l)]
}

// stays tests that a copy with room is as the list was, and the room behind it, too.
func stays[T comparable](t *testing.T, r, l []T, marked T) {
	t.Helper()
	if !slices.Equal(r, l) || !slices.Equal(r[:len(l)+3][len(l):], []T{marked, marked, marked}) {
		t.Fatalf("%v is changed to %v", l, r[:len(l)+3])
	}
}

var markedArc = nfa.Arc{From: mark, Letter: mark, To: mark}

// roomy returns a copy of an automaton, with marked room behind its lists.
func roomy(a nfa.NFA) nfa.NFA {
	return nfa.NFA{States: a.States, Start: room(a.Start, mark), Finals: room(a.Finals, true), Arcs: room(a.Arcs, markedArc)}
}

// staysNFA tests that the roomy copy of an automaton is as it was.
func staysNFA(t *testing.T, r, a nfa.NFA) {
	t.Helper()
	stays(t, r.Start, a.Start, mark)
	stays(t, r.Finals, a.Finals, true)
	stays(t, r.Arcs, a.Arcs, markedArc)
}

// results are the lists of all results that have some.
type results struct {
	numbers [][]int
	bools   [][]bool
	arcs    [][]nfa.Arc
	sets    [][]bits.Set
	words   []bits.Set
	others  []any
}

// resultsOf calls all functions.
func resultsOf(a nfa.NFA, l []int, letter, limit int) results {
	var all results
	set, e := nfa.Closure(a, l)
	all.words, all.others = append(all.words, set), append(all.others, e)
	set, e = nfa.Step(a, l, letter)
	all.words, all.others = append(all.words, set), append(all.others, e)
	list, e := nfa.Letters(a)
	all.numbers, all.others = append(all.numbers, list), append(all.others, e)
	list, e = nfa.Shortest(a)
	all.numbers, all.others = append(all.numbers, list), append(all.others, e)
	r, e := nfa.Reverse(a)
	all.numbers, all.others = append(all.numbers, r.Start), append(all.others, e, r.States)
	all.bools, all.arcs = append(all.bools, r.Finals), append(all.arcs, r.Arcs)
	s, e := nfa.Determinize(a, limit)
	all.sets, all.words, all.others = append(all.sets, s.Sets), append(all.words, s.Sets...), append(all.others, e)
	all.bools, all.arcs = append(all.bools, s.Finals), append(all.arcs, s.Arcs)
	ok, e := nfa.Accepts(a, l)
	all.others = append(all.others, ok, e, nfa.Valid(a), nfa.Equal(a, a))
	return all
}

// clones returns copies of lists.
func clones[S ~[]T, T any](lists []S) []S {
	var c []S
	for _, l := range lists {
		c = append(c, slices.Clone(l))
	}
	return c
}

// copied returns a copy of results that shares no memory with them.
func copied(r results) results {
	var sets [][]bits.Set
	for _, l := range r.sets {
		sets = append(sets, clones(l))
	}
	return results{numbers: clones(r.numbers), bools: clones(r.bools), arcs: clones(r.arcs), sets: sets, words: clones(r.words), others: slices.Clone(r.others)}
}

// alike reports whether two lists of lists are equal.
func alike[S ~[]T, T comparable](a, b []S) bool {
	return slices.EqualFunc(a, b, func(x, y S) bool { return slices.Equal(x, y) })
}

// sameResults tests that results are as they were.
func sameResults(t *testing.T, what string, got, want results) {
	t.Helper()
	sets := slices.EqualFunc(got.sets, want.sets, func(x, y []bits.Set) bool { return alike(x, y) })
	if !sets || !alike(got.numbers, want.numbers) || !alike(got.bools, want.bools) || !alike(got.arcs, want.arcs) || !alike(got.words, want.words) || !slices.Equal(got.others, want.others) {
		t.Fatalf("%s: got %v, want %v", what, got, want)
	}
}

// fill writes a value to all places of a list's capacity.
func fill[S ~[]T, T any](l S, value T) {
	l = l[:cap(l)]
	for i := range l {
		l[i] = value
	}
}

// flip changes all places of a list's capacity.
func flip(l []bool) {
	l = l[:cap(l)]
	for i := range l {
		l[i] = !l[i]
	}
}

// writers returns for each list of results a function that overwrites it, and one that restores it.
func writers(r results) (overwrite, restore []func()) {
	for _, l := range r.numbers {
		l, old := l[:cap(l)], slices.Clone(l[:cap(l)])
		overwrite, restore = append(overwrite, func() { fill(l, mark) }), append(restore, func() { copy(l, old) })
	}
	for _, l := range r.bools {
		l := l[:cap(l)]
		overwrite, restore = append(overwrite, func() { flip(l) }), append(restore, func() { flip(l) })
	}
	for _, l := range r.arcs {
		l, old := l[:cap(l)], slices.Clone(l[:cap(l)])
		overwrite, restore = append(overwrite, func() { fill(l, markedArc) }), append(restore, func() { copy(l, old) })
	}
	for _, l := range r.sets {
		l, old := l[:cap(l)], slices.Clone(l[:cap(l)])
		overwrite, restore = append(overwrite, func() { fill(l, bits.Set{mark}) }), append(restore, func() { copy(l, old) })
	}
	for _, l := range r.words {
		l, old := l[:cap(l)], slices.Clone(l[:cap(l)])
		overwrite, restore = append(overwrite, func() { fill(l, mark) }), append(restore, func() { copy(l, old) })
	}
	return overwrite, restore
}

// eachCall calls f with automata, valid ones and others, and with other arguments.
func eachCall(f func(a nfa.NFA, l []int, letter, limit int)) {
	random := rand.New(rand.NewSource(58))
	for _, a := range slices.Concat(examples(), large()[:6], wrong()[:40]) {
		l := random.Perm(max(0, min(a.States, 200)))
		f(a, l, 1+random.Intn(3), 300)
		f(a, append(l, l...), 10000, 2)
		f(a, append(l, a.States), 0, 300)
	}
}

// P2, P5.1: arguments are not modified, also not in their capacity.
func TestArgumentsStay(t *testing.T) {
	eachCall(func(a nfa.NFA, l []int, letter, limit int) {
		r, list := roomy(a), room(l, mark)
		resultsOf(r, list, letter, limit)
		staysNFA(t, r, a)
		stays(t, list, l, mark)
	})
}

// P2, P5.1: a change of the arguments changes no result, and a change of the results no argument.
func TestArgumentsApart(t *testing.T) {
	eachCall(func(a nfa.NFA, l []int, letter, limit int) {
		r, list := roomy(a), room(l, mark)
		got := resultsOf(r, list, letter, limit)
		want := copied(got)
		fill(r.Start, -mark)
		flip(r.Finals)
		fill(r.Arcs, nfa.Arc{From: -mark})
		fill(list, -mark)
		sameResults(t, "behind a change of the arguments", got, want)
		r, list = roomy(a), room(l, mark)
		overwrite, _ := writers(resultsOf(r, list, letter, limit))
		for _, write := range overwrite {
			write()
		}
		staysNFA(t, r, a)
		stays(t, list, l, mark)
	})
}

// P2, P5.1: no two lists of a result share memory. Each one is overwritten alone, and all others stay.
func TestResultsApart(t *testing.T) {
	for _, a := range examples() {
		l := []int{}
		if a.States > 0 {
			l = append(l, a.States-1)
		}
		got := resultsOf(a, l, 1, 1000)
		want := copied(got)
		overwrite, restore := writers(got)
		lists := len(got.numbers) + len(got.bools) + len(got.arcs)
		for i, write := range overwrite {
			if lists <= i && i < lists+len(got.sets) {
				continue // the list of the sets, whose elements are tested one by one
			}
			write()
			changed := copied(got)
			restore[i]()
			if n := differences(changed, want); n > 1 {
				t.Fatalf("%v: a change of the list %d changes %d lists", a, i, n)
			}
		}
		sameResults(t, "restored", got, want)
	}
}

// differences returns how many lists of results differ.
func differences(a, b results) int {
	n := 0
	count := func(same bool) {
		if !same {
			n++
		}
	}
	for i := range a.numbers {
		count(slices.Equal(a.numbers[i], b.numbers[i]))
	}
	for i := range a.bools {
		count(slices.Equal(a.bools[i], b.bools[i]))
	}
	for i := range a.arcs {
		count(slices.Equal(a.arcs[i], b.arcs[i]))
	}
	for i := range a.words {
		count(slices.Equal(a.words[i], b.words[i]))
	}
	return n
}

// P2: results of two calls share no memory.
func TestCallsApart(t *testing.T) {
	eachCall(func(a nfa.NFA, l []int, letter, limit int) {
		first, again := resultsOf(a, l, letter, limit), resultsOf(a, l, letter, limit)
		want := copied(again)
		overwrite, _ := writers(first)
		for _, write := range overwrite {
			write()
		}
		sameResults(t, "behind a change of other results", again, want)
	})
}

// P2: the lists of two automata, or of an automaton and a word, may be the same memory.
func TestSharedArguments(t *testing.T) {
	memory := []int{0, 1, 2, 1}
	a := made(3, memory[:3], []int{2}, nfa.Arc{From: 0, Letter: 1, To: 1}, nfa.Arc{From: 1, Letter: 2, To: 2}, nfa.Arc{From: 1, Letter: 0, To: 0})
	apart := roomy(a)
	sameResults(t, "shared lists", resultsOf(a, memory[1:], 1, 9), resultsOf(apart, []int{1, 2, 1}, 1, 9))
	if !slices.Equal(memory, []int{0, 1, 2, 1}) || !nfa.Equal(a, a) || !nfa.Equal(a, apart) {
		t.Errorf("changed to %v", memory)
	}
}

// P3: the same calls lead to the same results, whatever was called in between.
func TestSameAgain(t *testing.T) {
	var calls []func() results
	var first []results
	eachCall(func(a nfa.NFA, l []int, letter, limit int) {
		call := func() results { return resultsOf(a, l, letter, limit) }
		calls, first = append(calls, call), append(first, call())
	})
	for i, call := range slices.Backward(calls) {
		sameResults(t, "the same call", call(), first[i])
	}
}

// nfaOf returns the automaton that bytes describe: a number of states, marks of start and final states, and arcs of three bytes each. Its arcs are sorted if tidy.
func nfaOf(data []byte, tidy bool) nfa.NFA {
	if len(data) == 0 {
		return nfa.NFA{}
	}
	a := nfa.NFA{States: int(data[0] % 7), Finals: make([]bool, data[0]%7)}
	for n := range a.States {
		if data = data[1:]; len(data) == 0 {
			return a
		}
		if data[0]&1 == 1 {
			a.Start = append(a.Start, n)
		}
		a.Finals[n] = data[0]&2 == 2
	}
	for data = data[1:]; len(data) >= 3; data = data[3:] {
		a.Arcs = append(a.Arcs, nfa.Arc{From: int(data[0]) - 1, Letter: int(data[1]) - 1, To: int(data[2]) - 1})
	}
	if tidy && a.States > 0 {
		for i := range a.Arcs {
			a.Arcs[i] = nfa.Arc{From: (a.Arcs[i].From + 1) % a.States, Letter: (a.Arcs[i].Letter + 1) % 4, To: (a.Arcs[i].To + 1) % a.States}
		}
		return made(a.States, a.Start, marked(a.Finals), a.Arcs...)
	}
	return a
}

func FuzzNFA(f *testing.F) {
	f.Add([]byte{}, []byte{}, false)
	f.Add([]byte{2, 1, 2, 1, 2, 1, 1, 3, 1, 1, 3, 2}, []byte{1, 2, 2}, false)
	f.Add([]byte{4, 1, 0, 0, 2, 0, 1, 0, 0, 2, 0, 0, 2, 1, 1, 1, 2, 1, 2, 2, 2, 0, 3}, []byte{2, 1}, true)
	f.Add([]byte{3, 3, 3, 3, 9, 9, 9, 1, 0, 2}, []byte{0}, false)
	f.Fuzz(func(t *testing.T, data, text []byte, tidy bool) {
		a := nfaOf(data, tidy)
		var word []int
		for _, b := range text {
			word = append(word, int(b)-1)
		}
		if nfa.Valid(a) != valid(a) {
			t.Fatalf("%v: not %v", a, valid(a))
		}
		ok, e := nfa.Accepts(a, word)
		if !valid(a) {
			if ok || e != api.ErrArg {
				t.Fatalf("%v: got %v %s", a, ok, e.Name())
			}
			return
		}
		if e != api.OK || ok != accepted(a, word) {
			t.Fatalf("%v: %v: got %v %s", a, word, ok, e.Name())
		}
		subsets(a.States, func(l []int) {
			sameSet(t, "Closure", must(nfa.Closure(a, l)), closed(a, l))
			sameSet(t, "Step", must(nfa.Step(a, l, len(word))), stepped(a, l, len(word)))
		})
		want, _ := determinized(a, 1000)
		sameSubsets(t, a, must(nfa.Determinize(a, 1000)), want)
		sameNFA(t, "Reverse", must(nfa.Reverse(a)), turned(a))
		testShortest(t, a)
	})
}
