package nfa_test

import (
	"math/rand"
	"slices"
	"testing"

	"farandole/api"
	"farandole/nfa"
)

// testSmallShortest tests Shortest with all words in order: the first one that is accepted has to be it. An accepted word that no shorter one replaces does not come to a state twice.
func testSmallShortest(t *testing.T, a nfa.NFA) {
	t.Helper()
	got, e := nfa.Shortest(a)
	var want []int
	found := false
	words(letters(a), max(a.States-1, 0), func(word []int) bool {
		if found = accepted(a, word); found {
			want = word
		}
		return !found
	})
	if !found {
		if len(got) > 0 || e != api.ErrNone {
			t.Fatalf("%v: got %v %s, but no word is accepted", a, got, e.Name())
		}
		return
	}
	if e != api.OK || !slices.Equal(got, want) {
		t.Fatalf("%v: got %v %s, want %v", a, got, e.Name(), want)
	}
}

// completions returns for each length, up to the longest one, the closure of all states from which exactly so many letters lead to a final state.
func completions(a nfa.NFA, longest int) [][]int {
	back := turned(a)
	all := [][]int{closed(back, back.Start)}
	for len(all) <= longest {
		in := make([]bool, a.States)
		for _, letter := range letters(a) {
			for _, n := range stepped(back, all[len(all)-1], letter) {
				in[n] = true
			}
		}
		all = append(all, marked(in))
	}
	return all
}

// meet reports whether two lists have a common number.
func meet(a, b []int) bool {
	return slices.ContainsFunc(a, func(n int) bool { return slices.Contains(b, n) })
}

// testShortest tests that no shorter word than Shortest's one is accepted, and no lesser one of its length.
func testShortest(t *testing.T, a nfa.NFA) {
	t.Helper()
	word, e := nfa.Shortest(a)
	length := len(word)
	ends := completions(a, max(length, a.States))
	if e != api.OK {
		if e != api.ErrNone || length > 0 || slices.ContainsFunc(ends, func(l []int) bool { return meet(l, closed(a, a.Start)) }) {
			t.Fatalf("%v: got %v %s", a, word, e.Name())
		}
		return
	}
	l := closed(a, a.Start)
	for shorter := range length {
		if meet(l, ends[shorter]) {
			t.Fatalf("%v: got %v, but a word with %d letters is accepted", a, word, shorter)
		}
	}
	for i, letter := range word {
		for _, less := range letters(a) {
			if less < letter && meet(stepped(a, l, less), ends[length-i-1]) {
				t.Fatalf("%v: got %v, but its letter %d can be %d", a, word, i, less)
			}
		}
		l = stepped(a, l, letter)
	}
	if !meet(l, ends[0]) || !must(nfa.Accepts(a, word)) {
		t.Fatalf("%v: got %v, which is not accepted", a, word)
	}
}

// P5.1, P5.5: Shortest is the first one of all accepted words.
func TestShortest(t *testing.T) {
	small(func(a nfa.NFA) { testSmallShortest(t, a) })
	random := rand.New(rand.NewSource(56))
	for range 3000 {
		testSmallShortest(t, mixed(random, 1+random.Intn(6), 1+random.Intn(3), 0.5+3*random.Float64()))
	}
}

// P5.5: the shortest words of larger automata, among them some with many shortest words.
func TestShortestOfLarge(t *testing.T) {
	random := rand.New(rand.NewSource(57))
	all := append(examples(), chain(slices.Repeat([]int{3}, 199)...), layers(random, 10, 8), layers(random, 6, 20), layers(random, 60, 3))
	for _, a := range all {
		testShortest(t, a)
	}
	for i, a := range large() {
		if len(letters(a)) < 100 {
			testShortest(t, a)
			continue
		}
		if word, e := nfa.Shortest(a); e == api.OK && !accepted(a, word) {
			t.Errorf("%d: %v is not accepted", i, word)
		}
	}
}

// layers returns an automaton of some layers of some states that are mixed; two arcs lead from each state to the next layer, and a few arcs are empty.
func layers(random *rand.Rand, count, width int) nfa.NFA {
	n := count * width
	at := random.Perm(n)
	var arcs []nfa.Arc
	for from := range n - width {
		for range 3 {
			to := (from/width+1)*width + random.Intn(width)
			arcs = append(arcs, nfa.Arc{From: at[from], Letter: 1 + random.Intn(4), To: at[to]})
		}
		if random.Intn(6) == 0 {
			arcs = append(arcs, nfa.Arc{From: at[from], Letter: 0, To: at[from/width*width+random.Intn(width)]})
		}
	}
	var start []int
	for i := range width {
		start = append(start, at[i])
	}
	slices.Sort(start)
	return made(n, start, []int{at[n-1], at[n-width]}, arcs...)
}

// P5.5: a shorter word comes first even if its letters are greater, and a lesser first letter even if it leads to greater ones.
func TestShortestByHand(t *testing.T) {
	for i, c := range []struct {
		a    nfa.NFA
		want []int
		e    api.Errno
	}{
		{made(3, []int{0}, []int{2}, nfa.Arc{From: 0, Letter: 1, To: 1}, nfa.Arc{From: 1, Letter: 1, To: 2}, nfa.Arc{From: 0, Letter: 10000, To: 2}), []int{10000}, api.OK},
		{made(4, []int{0}, []int{3}, nfa.Arc{From: 0, Letter: 1, To: 1}, nfa.Arc{From: 1, Letter: 9, To: 3}, nfa.Arc{From: 0, Letter: 2, To: 2}, nfa.Arc{From: 2, Letter: 1, To: 3}), []int{1, 9}, api.OK},
		{made(4, []int{0}, []int{3}, nfa.Arc{From: 0, Letter: 1, To: 1}, nfa.Arc{From: 1, Letter: 9, To: 3}, nfa.Arc{From: 0, Letter: 1, To: 2}, nfa.Arc{From: 2, Letter: 4, To: 3}), []int{1, 4}, api.OK},
		{made(4, []int{0}, []int{3}, nfa.Arc{From: 0, Letter: 1, To: 0}, nfa.Arc{From: 0, Letter: 2, To: 3}), []int{2}, api.OK},
		{made(4, []int{0, 2}, []int{3}, nfa.Arc{From: 0, Letter: 3, To: 1}, nfa.Arc{From: 1, Letter: 1, To: 3}, nfa.Arc{From: 2, Letter: 5, To: 3}), []int{5}, api.OK},
		{chain(0, 7, 0, 6, 0), []int{7, 6}, api.OK}, {chain(0, 0), nil, api.OK}, {made(1, []int{0}, []int{0}), nil, api.OK},
		{made(1, nil, []int{0}), nil, api.ErrNone}, {made(2, []int{0}, []int{1}), nil, api.ErrNone}, {made(1, []int{0}, nil, nfa.Arc{From: 0, Letter: 1, To: 0}), nil, api.ErrNone},
		{made(2, []int{1}, []int{0}, nfa.Arc{From: 0, Letter: 1, To: 1}, nfa.Arc{From: 0, Letter: 0, To: 1}), nil, api.ErrNone},
		{chain(slices.Repeat([]int{10000}, 199)...), slices.Repeat([]int{10000}, 199), api.OK}, {fromEnd(150), append([]int{2}, slices.Repeat([]int{1}, 149)...), api.OK},
	} {
		if word, e := nfa.Shortest(c.a); e != c.e || !slices.Equal(word, c.want) {
			t.Errorf("%d: got %v %s, want %v %s", i, word, e.Name(), c.want, c.e.Name())
		}
	}
}
