package dfa_test

import (
	"math"
	"math/rand"
	"slices"
	"testing"

	"farandole/api"
	"farandole/dfa"
	"farandole/nfa"
)

// sameLists reports whether two lists of words are equal.
func sameLists(a, b [][]int) bool {
	return slices.EqualFunc(a, b, func(x, y []int) bool { return slices.Equal(x, y) })
}

// testWords tests Words with all words up to a length.
func testWords(t *testing.T, d dfa.DFA, longest int) {
	t.Helper()
	var want [][]int
	words(letters(d), longest, func(word []int) bool {
		if accepted(d, word) {
			want = append(want, word)
		}
		return true
	})
	for n := -1; n <= longest; n++ {
		count := 0
		for count < len(want) && len(want[count]) <= n {
			count++
		}
		for _, most := range []int{-1, 0, 1, 2, 3, 5, count - 1, count, count + 1, 1000} {
			got, e := dfa.Words(d, n, most)
			if e != api.OK || !sameLists(got, want[:min(count, max(0, most))]) {
				t.Fatalf("%v: up to %d letters, %d words: got %v %s, want of %v", d, n, most, got, e.Name(), want[:count])
			}
		}
	}
}

// P6.1, P6.6: the accepted words among all words, up to each length and each number.
func TestWords(t *testing.T) {
	small(func(d dfa.DFA) { testWords(t, d, 4) })
	random := rand.New(rand.NewSource(71))
	for _, d := range examples() {
		if len(letters(d)) <= 4 {
			testWords(t, d, 5)
		}
	}
	for range 300 {
		testWords(t, mixed(random, 1+random.Intn(9), 2+random.Intn(2), 2*random.Float64()), 6)
	}
}

// P6.6: words of any automaton are strictly ascending and accepted, and no longer than asked for; with a greater number the first ones stay.
func TestWordsOfLarge(t *testing.T) {
	random := rand.New(rand.NewSource(72))
	for i, d := range append(large(), mixed(random, 60, 4, 1), mixed(random, 200, 3, 0.2)) {
		for _, n := range []int{0, 3, 40, 1100} {
			l := must(dfa.Words(d, n, 300))
			for k, word := range l {
				if len(word) > n || k > 0 && !less(l[k-1], word) {
					t.Fatalf("%d: %.200v ahead of %.200v", i, l[max(0, k-1)], word)
				}
				if k%10 == 0 && !must(dfa.Accepts(d, word)) {
					t.Fatalf("%d: %.200v", i, word)
				}
			}
			if !sameLists(must(dfa.Words(d, n, 20)), l[:min(20, len(l))]) {
				t.Fatalf("%d: with 20 words", i)
			}
		}
	}
}

// counted returns how many words of at most n letters are accepted, up to a bound.
func counted(d dfa.DFA, n, bound int) int {
	at := map[int]int{d.Start: 1}
	count := 0
	for range n + 1 {
		next := map[int]int{}
		for state, ways := range at {
			if d.Finals[state] {
				count = min(bound, count+ways)
			}
		}
		for _, x := range d.Arcs {
			if at[x.From] > 0 {
				next[x.To] = min(bound, next[x.To]+at[x.From])
			}
		}
		at = next
	}
	return count
}

// P6.6: the words are complete up to the number: there are as many as can be counted.
func TestWordsComplete(t *testing.T) {
	random := rand.New(rand.NewSource(73))
	for range 400 {
		d := mixed(random, 1+random.Intn(30), 2+random.Intn(20), random.Float64())
		for _, n := range []int{0, 1, 2, 7, 25} {
			if l := must(dfa.Words(d, n, 1000)); len(l) != counted(d, n, 1000) {
				t.Fatalf("%v: %d words of at most %d letters, want %d", d, len(l), n, counted(d, n, 1000))
			}
		}
	}
}

// P6.1: none for a negative n or number; a number above 1000 counts as 1000.
func TestWordsNumbers(t *testing.T) {
	for _, c := range []struct {
		d             dfa.DFA
		n, most, want int
	}{
		{star(1), -1, 5, 0}, {star(1), math.MinInt, 5, 0}, {star(1), 5, -1, 0}, {star(1), 5, math.MinInt, 0}, {star(1), 5, 0, 0}, {star(1), -1, -1, 0}, {star(1), 0, 1, 1}, {star(1), 0, 5, 1}, {star(1), 5, 5, 5}, {star(1), 5, 6, 6}, {star(1), 5, 7, 6},
		{star(1), 998, 1000, 999}, {star(1), 999, 1000, 1000}, {star(1), 1000, 1000, 1000}, {star(1), 1001, 1001, 1000}, {star(1), 5000, 1002, 1000}, {star(1), math.MaxInt, 999, 999}, {star(1), math.MaxInt, math.MaxInt, 1000},
		{star(10000), 1, math.MaxInt, 1000}, {star(998), 1, 1000, 999}, {star(999), 1, 1000, 1000}, {star(1000), 1, 1001, 1000}, {nothing(), math.MaxInt, math.MaxInt, 0}, {cycle(1000, 20), math.MaxInt, math.MaxInt, 0},
		{chain(), math.MaxInt, math.MaxInt, 1}, {chain(4, 4), 1, 5, 0}, {chain(4, 4), 2, 5, 1}, {chain(4, 4), math.MaxInt, math.MaxInt, 1}, {sample(), math.MaxInt, 7, 7}, {sample(), 3, 1000, 3},
	} {
		l, e := dfa.Words(c.d, c.n, c.most)
		if e != api.OK || len(l) != c.want {
			t.Errorf("up to %d letters, %d words: got %d %s, want %d", c.n, c.most, len(l), e.Name(), c.want)
		}
	}
}

// P6.1, P6.6: by length, and then element by element.
func TestWordsByHand(t *testing.T) {
	d := made(5, 4, []int{0, 2},
		nfa.Arc{From: 4, Letter: 10000, To: 0}, nfa.Arc{From: 4, Letter: 2, To: 1}, nfa.Arc{From: 4, Letter: 10, To: 1}, nfa.Arc{From: 1, Letter: 10000, To: 0}, nfa.Arc{From: 1, Letter: 3, To: 2}, nfa.Arc{From: 1, Letter: 1, To: 3},
		nfa.Arc{From: 3, Letter: 5, To: 3}, nfa.Arc{From: 2, Letter: 1, To: 1})
	want := [][]int{{10000}, {2, 3}, {2, 10000}, {10, 3}, {10, 10000}, {2, 3, 1, 3}, {2, 3, 1, 10000}, {10, 3, 1, 3}, {10, 3, 1, 10000}, {2, 3, 1, 3, 1, 3}}
	for most := range len(want) + 1 {
		if got := must(dfa.Words(d, 100, most)); !sameLists(got, want[:most]) {
			t.Errorf("%d words: got %v", most, got)
		}
	}
	if got := must(dfa.Words(d, 5, 100)); !sameLists(got, want[:9]) {
		t.Errorf("up to 5 letters: got %v", got)
	}
}

// exactly returns so many words, of any length.
func exactly(t *testing.T, d dfa.DFA, count int) [][]int {
	t.Helper()
	l := must(dfa.Words(d, math.MaxInt, count))
	if len(l) != count {
		t.Fatalf("got %d words, want %d", len(l), count)
	}
	return l
}

// P1, P6.6: where far more words begin than are accepted, and where words are very long.
func TestWordsFar(t *testing.T) {
	// Of the words over 1 to 20 with 999 letters all are accepted, and no others.
	far := cycle(1000, 20, 999)
	far.Arcs = far.Arcs[:20*999]
	word := slices.Repeat([]int{1}, 999)
	for i, got := range exactly(t, far, 1000) {
		want := slices.Clone(word)
		want[998], want[997], want[996] = 1+i%20, 1+i/20%20, 1+i/400
		if !slices.Equal(got, want) {
			t.Fatalf("%d: got %v", i, got[990:])
		}
	}
	// A word ends once in 1000 letters.
	for i, got := range exactly(t, cycle(1000, 1, 0), 150) {
		if len(got) != 1000*i || slices.ContainsFunc(got, func(letter int) bool { return letter != 1 }) {
			t.Fatalf("%d: %d letters", i, len(got))
		}
	}
	// In the start state, 9999 letters go before the one that stays there, and lead to a far end.
	l := []nfa.Arc{{From: 0, Letter: 10000, To: 0}}
	for letter := 1; letter < 10000; letter++ {
		l = append(l, nfa.Arc{From: 0, Letter: letter, To: 1})
	}
	for n := 1; n < 999; n++ {
		l = append(l, nfa.Arc{From: n, Letter: 1, To: n + 1})
	}
	for i, got := range exactly(t, made(1000, 0, []int{0, 999}, l...), 1000) {
		want := slices.Repeat([]int{10000}, i)
		if i >= 999 {
			want = append([]int{i - 998}, slices.Repeat([]int{1}, 998)...)
		}
		if !slices.Equal(got, want) {
			t.Fatalf("%d: got %v", i, got)
		}
	}
}
