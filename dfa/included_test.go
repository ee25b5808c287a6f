package dfa_test

import (
	"math/bits"
	"math/rand"
	"slices"
	"testing"

	"farandole/api"
	"farandole/dfa"
	"farandole/nfa"
)

// every returns all automata of at most 2 states over the letters 1 and 2, and the sets of the words of up to 5 letters that they accept.
func every() (all []dfa.DFA, sets []uint64) {
	small(func(d dfa.DFA) {
		all, sets = append(all, d), append(sets, acceptance(d))
	})
	return all, sets
}

// P6.1, P6.4: all pairs of automata of at most 2 states. Where a accepts a word that b does not, one of up to 5 letters is such: there are 6 pairs of a state of a with a state of b or none.
func TestIncludedSmall(t *testing.T) {
	all, sets := every()
	var inOrder [][]int
	words([]int{1, 2}, 5, func(word []int) bool {
		inOrder = append(inOrder, word)
		return true
	})
	for i, a := range all {
		for k, b := range all {
			word, ok, e := dfa.Included(a, b)
			if e != api.OK || ok != (sets[i]&^sets[k] == 0) {
				t.Fatalf("%v in %v: got %v %v %s", a, b, word, ok, e.Name())
			}
			var want []int
			if !ok {
				want = inOrder[bits.TrailingZeros64(sets[i]&^sets[k])]
			}
			if !slices.Equal(word, want) {
				t.Fatalf("%v in %v: got %v, want %v", a, b, word, want)
			}
		}
	}
}

// lone is a pair of states of two automata; the second one is -1 if that automaton does not read the word.
type lone struct{ a, b int }

// stepsOf returns the pairs to which a pair leads.
func stepsOf(a, b dfa.DFA, p lone) map[int]lone {
	everything := func(int) bool { return true }
	second := leads(b, p.b, everything)
	l := map[int]lone{}
	for letter, to := range leads(a, p.a, everything) {
		l[letter] = lone{to, -1}
		if other, ok := second[letter]; ok {
			l[letter] = lone{to, other}
		}
	}
	return l
}

// testIncluded tests Included by lengths: there is a word of a length if a pair from which exactly so many letters lead to a final state of a alone is the pair of the start states; and it is the least one if no lesser letter leads to such a pair.
func testIncluded(t *testing.T, a, b dfa.DFA) {
	t.Helper()
	word, ok, e := dfa.Included(a, b)
	steps := map[lone]map[int]lone{}
	in := map[lone]bool{}
	for p := range a.States {
		for q := -1; q < b.States; q++ {
			steps[lone{p, q}] = stepsOf(a, b, lone{p, q})
			if a.Finals[p] && (q < 0 || !b.Finals[q]) {
				in[lone{p, q}] = true
			}
		}
	}
	levels := []map[lone]bool{in}
	start := lone{a.Start, b.Start}
	for length := 0; length < a.States*(b.States+1) && !levels[length][start]; length++ {
		longer := map[lone]bool{}
		for p, l := range steps {
			for _, to := range l {
				longer[p] = longer[p] || levels[length][to]
			}
		}
		levels = append(levels, longer)
	}
	last := len(levels) - 1
	if e != api.OK || ok == levels[last][start] || ok && len(word) > 0 {
		t.Fatalf("%v in %v: got %v %v %s", a, b, word, ok, e.Name())
	}
	if ok {
		return
	}
	if len(word) != last || !accepted(a, word) || accepted(b, word) {
		t.Fatalf("%v in %v: got %v, want a word of %d letters", a, b, word, last)
	}
	at := start
	for i, letter := range word {
		for other, to := range steps[at] {
			if other < letter && levels[last-i-1][to] {
				t.Fatalf("%v in %v: got %v, but its letter %d can be %d", a, b, word, i, other)
			}
		}
		at = steps[at][letter]
	}
}

// P6.4: pairs of automata of many shapes, also of those that accept almost the same words.
func TestIncluded(t *testing.T) {
	random := rand.New(rand.NewSource(67))
	all := examples()
	for range 1500 {
		testIncluded(t, all[random.Intn(len(all))], all[random.Intn(len(all))])
	}
	for range 600 {
		a := mixed(random, 1+random.Intn(7), 2+random.Intn(3), 2*random.Float64())
		b := shuffled(random, copies(random, a, 2))
		testIncluded(t, a, b)
		testIncluded(t, b, a)
		if len(b.Arcs) > 0 {
			b.Arcs[random.Intn(len(b.Arcs))].To = random.Intn(b.States)
		}
		b.Finals[random.Intn(b.States)] = true
		testIncluded(t, a, b)
		testIncluded(t, b, a)
	}
}

// P6.4: each automaton accepts the words of its forms, and these its words.
func TestIncludedForms(t *testing.T) {
	for i, d := range append(examples(), large()...) {
		for _, r := range []dfa.DFA{d, must(dfa.Canonical(d)), must(dfa.Trim(d)), must(dfa.Minimize(d))} {
			for _, both := range [][2]dfa.DFA{{d, r}, {r, d}} {
				if word, ok, e := dfa.Included(both[0], both[1]); !ok || len(word) > 0 || e != api.OK {
					t.Errorf("%d: got %v %v %s", i, word, ok, e.Name())
				}
			}
		}
	}
}

// P6.4: shorter words come first even if their letters are greater, lesser first letters even if greater ones follow, and words that b does not read count.
func TestIncludedByHand(t *testing.T) {
	fork := made(4, 0, []int{3}, nfa.Arc{From: 0, Letter: 1, To: 1}, nfa.Arc{From: 1, Letter: 9, To: 3}, nfa.Arc{From: 0, Letter: 2, To: 2}, nfa.Arc{From: 2, Letter: 1, To: 3})
	short := made(3, 0, []int{2}, nfa.Arc{From: 0, Letter: 1, To: 1}, nfa.Arc{From: 1, Letter: 1, To: 2}, nfa.Arc{From: 0, Letter: 10000, To: 2})
	for i, c := range []struct {
		a, b dfa.DFA
		word []int
		ok   bool
	}{
		{fork, nothing(), []int{1, 9}, false}, {short, nothing(), []int{10000}, false}, {fork, chain(1, 9), []int{2, 1}, false}, {short, chain(10000), []int{1, 1}, false}, {short, chain(1, 1), []int{10000}, false},
		{chain(1, 9), fork, nil, true}, {chain(10000), short, nil, true}, {nothing(), nothing(), nil, true}, {nothing(), fork, nil, true}, {cycle(5, 3), nothing(), nil, true}, {star(1), nothing(), nil, false}, {star(1), sample(), nil, false},
		{sample(), star(1), nil, true}, {chain(), star(4), nil, true}, {star(4), chain(), []int{1}, false}, {star(4), star(3), []int{4}, false}, {star(3), star(4), nil, true},
		{cycle(6, 1, 0), cycle(3, 1, 0), nil, true}, {cycle(3, 1, 0), cycle(6, 1, 0), []int{1, 1, 1}, false}, {cycle(4, 1, 3), cycle(2, 1, 1), nil, true}, {chain(2, 3), chain(2, 2), []int{2, 3}, false}, {chain(2, 3), chain(3, 3), []int{2, 3}, false},
	} {
		if word, ok, e := dfa.Included(c.a, c.b); e != api.OK || ok != c.ok || !slices.Equal(word, c.word) {
			t.Errorf("%d: got %v %v %s", i, word, ok, e.Name())
		}
	}
}

// P1, P6.4: as many pairs of states as there can be, each with twenty letters.
func TestIncludedLarge(t *testing.T) {
	a, b := cycle(1000, 20, 0), cycle(999, 20, states(cycle(999, 1))...)
	if word, ok, e := dfa.Included(a, b); e != api.OK || !ok || len(word) > 0 {
		t.Errorf("got %d letters, %v %s", len(word), ok, e.Name())
	}
	b.Finals[500] = false
	if word, ok, e := dfa.Included(a, b); e != api.OK || ok || !slices.Equal(word, slices.Repeat([]int{1}, 500000)) {
		t.Errorf("got %d letters, %v %s", len(word), ok, e.Name())
	}
	b.Arcs = slices.Delete(b.Arcs, 20*998+6, 20*998+7)
	want := append(slices.Repeat([]int{1}, 998), 7, 1)
	if word, ok, e := dfa.Included(a, b); e != api.OK || ok || !slices.Equal(word, want) {
		t.Errorf("got %d letters, %v %s", len(word), ok, e.Name())
	}
	if word, ok, e := dfa.Included(cycle(2, 10000, 1), cycle(2, 10000, 0)); e != api.OK || ok || !slices.Equal(word, []int{1}) {
		t.Errorf("got %v %v %s", word, ok, e.Name())
	}
}
