package nfa_test

import (
	"math"
	"math/rand"
	"slices"
	"testing"

	"farandole/api"
	"farandole/bits"
	"farandole/nfa"
)

// noLetters are numbers that are no letters.
var noLetters = []int{0, -1, 10001, math.MinInt, math.MaxInt, math.MaxInt - 1}

// lists returns lists of states: each state alone, unordered lists, and lists with states that occur twice.
func lists(a nfa.NFA) [][]int {
	l := [][]int{nil, {}}
	if a.States == 0 {
		return l
	}
	random := rand.New(rand.NewSource(51))
	for n := range a.States {
		other := random.Intn(a.States)
		l = append(l, []int{n}, []int{n, n}, []int{n, other}, []int{other, n, random.Intn(a.States), n})
	}
	return append(l, random.Perm(a.States))
}

// eachStep calls f with automata, lists of their states and letters.
func eachStep(f func(a nfa.NFA, l []int, letter int)) {
	for _, a := range examples() {
		for _, l := range lists(a) {
			for _, letter := range append(letters(a), 77) {
				f(a, l, letter)
			}
		}
	}
}

// union returns the union of two sets as lists, in ascending order.
func union(a, b []int) []int {
	l := append(slices.Clone(a), b...)
	slices.Sort(l)
	return slices.Compact(l)
}

// P5.1: the closure has the states that are reached by empty arcs, and the given ones.
func TestClosure(t *testing.T) {
	small(func(a nfa.NFA) {
		subsets(a.States, func(l []int) { sameSet(t, "Closure", must(nfa.Closure(a, l)), closed(a, l)) })
	})
	for _, a := range slices.Concat(examples(), large()) {
		for _, l := range lists(a) {
			sameSet(t, "Closure", must(nfa.Closure(a, l)), closed(a, l))
		}
	}
}

// P5.1: the step has the closure of what the arcs with the letter lead to, from the closure of the given states.
func TestStep(t *testing.T) {
	small(func(a nfa.NFA) {
		subsets(a.States, func(l []int) {
			for letter := range 4 {
				sameSet(t, "Step", must(nfa.Step(a, l, letter)), stepped(a, l, letter))
			}
		})
	})
	eachStep(func(a nfa.NFA, l []int, letter int) {
		sameSet(t, "Step", must(nfa.Step(a, l, letter)), stepped(a, l, letter))
	})
	for _, a := range large() {
		for i, letter := range letters(a) {
			if i < 30 || letter > 9900 {
				l := lists(a)
				for k := i % 7; k < len(l); k += 53 {
					sameSet(t, "Step", must(nfa.Step(a, l[k], letter)), stepped(a, l[k], letter))
				}
			}
		}
	}
}

// P5.1: the empty arcs count ahead of the letter and behind it, and each state in between has its own arcs.
func TestStepByHand(t *testing.T) {
	a := made(7, []int{0}, []int{6},
		nfa.Arc{From: 0, Letter: 0, To: 2}, nfa.Arc{From: 2, Letter: 0, To: 1}, nfa.Arc{From: 1, Letter: 5, To: 4}, nfa.Arc{From: 1, Letter: 6, To: 3},
		nfa.Arc{From: 4, Letter: 0, To: 6}, nfa.Arc{From: 4, Letter: 5, To: 5}, nfa.Arc{From: 5, Letter: 10000, To: 0}, nfa.Arc{From: 6, Letter: 1, To: 6})
	for _, c := range []struct {
		l      []int
		letter int
		want   []int
	}{
		{[]int{0}, 5, []int{4, 6}}, {[]int{0}, 6, []int{3}}, {[]int{0}, 7, nil}, {[]int{2}, 5, []int{4, 6}}, {[]int{4}, 5, []int{5}}, {[]int{4}, 1, []int{6}},
		{[]int{5}, 10000, []int{0, 1, 2}}, {[]int{5}, 9999, nil}, {[]int{5}, 10001, nil}, {[]int{0, 4}, 5, []int{4, 5, 6}}, {[]int{3}, 5, nil}, {nil, 5, nil}, {[]int{0}, 0, nil}, {[]int{0, 2, 4}, -1, nil},
	} {
		sameSet(t, "Step", must(nfa.Step(a, c.l, c.letter)), c.want)
	}
}

// P5.1: a number that is no letter leads to the empty set, also where there are empty arcs.
func TestStepByNoLetter(t *testing.T) {
	for _, a := range append(examples(), large()...) {
		for _, l := range lists(a) {
			for _, letter := range noLetters {
				sameSet(t, "Step", must(nfa.Step(a, l, letter)), nil)
			}
		}
	}
}

// P5.2: closures are monotone and idempotent, and have the states themselves.
func TestClosureLaws(t *testing.T) {
	for _, a := range append(examples(), large()...) {
		all := lists(a)
		for i, l := range all {
			c := must(nfa.Closure(a, l))
			if !bits.Sub(bits.Make(l), c) || !bits.Equal(c, must(nfa.Closure(a, bits.List(c)))) {
				t.Fatalf("%v: the closure of %v: %v", a, l, bits.List(c))
			}
			more := union(l, all[(7*i+3)%len(all)])
			if !bits.Sub(c, must(nfa.Closure(a, more))) {
				t.Fatalf("%v: the closures of %v and %v", a, l, more)
			}
		}
	}
}

// P5.2: the step of a set is that of its closure, and the union of the steps of its elements.
func TestStepLaws(t *testing.T) {
	eachStep(func(a nfa.NFA, l []int, letter int) {
		s := must(nfa.Step(a, l, letter))
		c := must(nfa.Closure(a, l))
		if !bits.Equal(s, must(nfa.Step(a, bits.List(c), letter))) {
			t.Fatalf("%v: the step of %v by %d is not that of its closure", a, l, letter)
		}
		all := bits.Set{}
		for _, n := range l {
			all = bits.Union(all, must(nfa.Step(a, []int{n}, letter)))
		}
		if !bits.Equal(s, all) || !bits.Equal(s, must(nfa.Closure(a, bits.List(s)))) {
			t.Fatalf("%v: the step of %v by %d: %v, of its elements %v", a, l, letter, bits.List(s), bits.List(all))
		}
	})
}

// P5.1: a word is accepted if a path from a start state to a final state has its letters.
func TestAccepts(t *testing.T) {
	small(func(a nfa.NFA) {
		words([]int{1, 2}, 2, func(word []int) bool {
			if ok, e := nfa.Accepts(a, word); e != api.OK || ok != accepted(a, word) {
				t.Fatalf("%v: %v: %v %s", a, word, ok, e.Name())
			}
			return true
		})
	})
	random := rand.New(rand.NewSource(52))
	for i, a := range slices.Concat(examples(), large()) {
		count := [2]int{}
		for range 60 {
			word := likely(random, a)
			ok, e := nfa.Accepts(a, word)
			if e != api.OK || ok != accepted(a, word) {
				t.Fatalf("%d: %v: %v: %v %s", i, a, word, ok, e.Name())
			}
			if ok {
				count[1]++
			} else {
				count[0]++
			}
		}
	}
}

// likely returns a word with the letters of a path from a start state, which may be changed at one place.
func likely(random *rand.Rand, a nfa.NFA) []int {
	var word []int
	if len(a.Start) == 0 || len(a.Arcs) == 0 {
		return word
	}
	n := a.Start[random.Intn(len(a.Start))]
	for range random.Intn(20) {
		var next []nfa.Arc
		for _, x := range a.Arcs {
			if x.From == n {
				next = append(next, x)
			}
		}
		if len(next) == 0 {
			break
		}
		x := next[random.Intn(len(next))]
		if x.Letter != 0 {
			word = append(word, x.Letter)
		}
		n = x.To
	}
	if len(word) > 0 && random.Intn(3) == 0 {
		word[random.Intn(len(word))] = a.Arcs[random.Intn(len(a.Arcs))].Letter
	}
	return word
}

// P5.1: a word with a number that is no letter is not accepted, wherever it stands.
func TestAcceptsNoLetters(t *testing.T) {
	for _, a := range []nfa.NFA{full(3, 2), made(1, []int{0}, []int{0}, nfa.Arc{From: 0, Letter: 0, To: 0}, nfa.Arc{From: 0, Letter: 1, To: 0}, nfa.Arc{From: 0, Letter: 10000, To: 0})} {
		for _, letter := range noLetters {
			for _, word := range [][]int{{letter}, {1, letter}, {letter, 1}, {1, letter, 1}, {letter, letter}} {
				if ok, e := nfa.Accepts(a, word); ok || e != api.OK {
					t.Errorf("%v: %v %s", word, ok, e.Name())
				}
			}
		}
		if ok, e := nfa.Accepts(a, []int{1, 1}); !ok || e != api.OK {
			t.Errorf("1 1: %v %s", ok, e.Name())
		}
	}
}

// P5.1: the empty word is accepted if the closure of the start states has a final one.
func TestAcceptsEmptyWord(t *testing.T) {
	small(func(a nfa.NFA) {
		want := slices.ContainsFunc(closed(a, a.Start), func(n int) bool { return a.Finals[n] })
		for _, word := range [][]int{nil, {}} {
			if ok, e := nfa.Accepts(a, word); ok != want || e != api.OK {
				t.Fatalf("%v: %v %s", a, ok, e.Name())
			}
		}
	})
}

// P5.1: the chapter's example accepts the words that end with 2.
func TestExample(t *testing.T) {
	a := made(2, []int{0}, []int{1}, nfa.Arc{From: 0, Letter: 1, To: 0}, nfa.Arc{From: 0, Letter: 2, To: 0}, nfa.Arc{From: 0, Letter: 2, To: 1})
	words([]int{1, 2}, 8, func(word []int) bool {
		want := len(word) > 0 && word[len(word)-1] == 2
		if ok, e := nfa.Accepts(a, word); ok != want || e != api.OK {
			t.Errorf("%v: %v %s", word, ok, e.Name())
		}
		return true
	})
	if s, e := nfa.Determinize(a, 1000); e != api.OK || len(s.Sets) != 2 {
		t.Errorf("%v %s", s, e.Name())
	}
	if word, e := nfa.Shortest(a); e != api.OK || !slices.Equal(word, []int{2}) {
		t.Errorf("%v %s", word, e.Name())
	}
}

// P1: long words and long lists.
func TestLong(t *testing.T) {
	a := fromEnd(199)
	word := slices.Repeat([]int{1, 1, 2}, 10000)
	if ok, e := nfa.Accepts(a, word); ok != (word[len(word)-199] == 2) || e != api.OK {
		t.Errorf("%v %s", ok, e.Name())
	}
	l := slices.Repeat([]int{0, 199, 5, 0}, 50000)
	sameSet(t, "Closure", must(nfa.Closure(a, l)), []int{0, 5, 199})
	sameSet(t, "Step", must(nfa.Step(a, l, 2)), []int{0, 1, 6})
}
