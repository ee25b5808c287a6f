package dfa_test

import (
	"math"
	"math/rand"
	"slices"
	"testing"

	"farandole/api"
	"farandole/dfa"
	"farandole/nfa"
)

// testNext tests Next with a state and a letter, whatever these numbers are.
func testNext(t *testing.T, d dfa.DFA, state, letter int) {
	t.Helper()
	i := slices.IndexFunc(d.Arcs, func(x nfa.Arc) bool { return x.From == state && x.Letter == letter })
	n, ok := dfa.Next(d, state, letter)
	if i < 0 {
		if n != 0 || ok {
			t.Fatalf("%.500v: from %d with %d: got %d %v", d, state, letter, n, ok)
		}
		return
	}
	if n != d.Arcs[i].To || !ok {
		t.Fatalf("%.500v: from %d with %d: got %d %v, want %d", d, state, letter, n, ok, d.Arcs[i].To)
	}
}

// P6.1: Next follows the arc of a state with a letter; there is none for numbers that are no state or no letter.
func TestNext(t *testing.T) {
	numbers := []int{math.MinInt, -1000, -1, 1001, 10000, 10001, math.MaxInt}
	test := func(d dfa.DFA) {
		for state := -1; state <= d.States; state++ {
			for letter := -1; letter <= 6; letter++ {
				testNext(t, d, state, letter)
			}
			for _, number := range numbers {
				testNext(t, d, state, number)
				testNext(t, d, number, state)
			}
		}
	}
	small(test)
	for _, d := range examples() {
		test(d)
	}
	random := rand.New(rand.NewSource(61))
	for _, d := range large() {
		for range 30 {
			testNext(t, d, random.Intn(d.States+2)-1, random.Intn(30))
			if len(d.Arcs) > 0 {
				x := d.Arcs[random.Intn(len(d.Arcs))]
				testNext(t, d, x.From, x.Letter)
			}
		}
	}
}

// P6.1: Next finds nothing in an automaton that is not valid, also where it has the arc.
func TestNextNotValid(t *testing.T) {
	for i, d := range wrong() {
		for _, x := range append(slices.Clone(d.Arcs[:min(len(d.Arcs), 5)]), nfa.Arc{}, nfa.Arc{From: math.MaxInt, Letter: math.MinInt}) {
			if n, ok := dfa.Next(d, x.From, x.Letter); n != 0 || ok {
				t.Errorf("%d: %v: got %d %v", i, x, n, ok)
			}
		}
	}
}

// likely returns a word that is often read: its letters are those of arcs, seldom another number.
func likely(random *rand.Rand, d dfa.DFA) []int {
	n := d.Start
	var word []int
	for range random.Intn(12) {
		var l []nfa.Arc
		for _, x := range d.Arcs {
			if x.From == n {
				l = append(l, x)
			}
		}
		if len(l) == 0 || random.Intn(12) == 0 {
			return append(word, []int{0, -1, 10001, 1, 2, math.MaxInt, math.MinInt}[random.Intn(7)])
		}
		x := l[random.Intn(len(l))]
		word, n = append(word, x.Letter), x.To
	}
	return word
}

// P6.1: a word is accepted if it is read and ends in a final state.
func TestAccepts(t *testing.T) {
	small(func(d dfa.DFA) {
		words([]int{1, 2, 3}, 3, func(word []int) bool {
			if ok, e := dfa.Accepts(d, word); e != api.OK || ok != accepted(d, word) {
				t.Fatalf("%v: %v: got %v %s", d, word, ok, e.Name())
			}
			return true
		})
	})
	random := rand.New(rand.NewSource(62))
	for _, d := range append(examples(), large()...) {
		for range 30 {
			word := likely(random, d)
			if ok, e := dfa.Accepts(d, word); e != api.OK || ok != accepted(d, word) {
				t.Fatalf("%.500v: %v: got %v %s", d, word, ok, e.Name())
			}
		}
	}
}

// P6.1: the example of the chapter, words without letters, and long ones.
func TestAcceptsByHand(t *testing.T) {
	for i, c := range []struct {
		d    dfa.DFA
		word []int
		want bool
	}{
		{sample(), nil, false}, {sample(), []int{1}, true}, {sample(), []int{1, 1}, true}, {sample(), slices.Repeat([]int{1}, 9), true}, {sample(), []int{2}, false}, {sample(), []int{1, 2}, false}, {sample(), []int{1, 2, 1}, false}, {sample(), []int{1, 0}, false},
		{nothing(), nil, false}, {star(1), []int{}, true}, {star(10000), []int{10000, 1, 9999}, true}, {star(10000), []int{10000, 10001}, false}, {star(10000), []int{0}, false},
		{chain(3, 1, 2), []int{3, 1, 2}, true}, {chain(3, 1, 2), []int{3, 1}, false}, {chain(3, 1, 2), []int{3, 1, 2, 2}, false}, {cycle(7, 1, 3), slices.Repeat([]int{1}, 700003), true}, {cycle(7, 1, 3), slices.Repeat([]int{1}, 700004), false},
	} {
		if ok, e := dfa.Accepts(c.d, c.word); e != api.OK || ok != c.want {
			t.Errorf("%d: got %v %s", i, ok, e.Name())
		}
	}
}
