package nfa_test

import (
	"math"
	"math/rand"
	"slices"
	"testing"

	"farandole/api"
	"farandole/bits"
	"farandole/nfa"
)

// sameSubsets tests that a subset automaton is as the model has it, with valid sets.
func sameSubsets(t *testing.T, a nfa.NFA, s nfa.Subsets, want subsetModel) {
	t.Helper()
	if len(s.Sets) != len(want.sets) || !slices.Equal(s.Finals, want.finals) || !slices.Equal(s.Arcs, want.arcs) {
		t.Fatalf("%v: got %v, want %v", a, s, want)
	}
	for i, set := range s.Sets {
		sameSet(t, "a set", set, want.sets[i])
	}
}

// P5.1, P5.3: the sets in breadth-first order by ascending letters, whether they have a final state, and the arcs.
func TestDeterminize(t *testing.T) {
	small(func(a nfa.NFA) {
		want, _ := determinized(a, 1000)
		sameSubsets(t, a, must(nfa.Determinize(a, 1000)), want)
	})
	for _, a := range append(examples(), fromEnd(7)) {
		want, ok := determinized(a, 1000)
		if !ok {
			t.Fatalf("%v has more sets", a)
		}
		sameSubsets(t, a, must(nfa.Determinize(a, 1000)), want)
	}
}

// P5.1, P5.3: large automata, whose sets need up to four words.
func TestDeterminizeLarge(t *testing.T) {
	for i, a := range large() {
		want, ok := determinized(a, 150)
		s, e := nfa.Determinize(a, 150)
		if !ok {
			if e != api.ErrLimit || len(s.Sets)+len(s.Finals)+len(s.Arcs) > 0 {
				t.Errorf("%d: got %v %s", i, s, e.Name())
			}
			continue
		}
		sameSubsets(t, a, must(s, e), want)
	}
}

// P5.1, P5.3: the order is by breadth and then by letters, not by the numbers of states.
func TestDeterminizeByHand(t *testing.T) {
	a := made(5, []int{3}, []int{0}, nfa.Arc{From: 3, Letter: 2, To: 0}, nfa.Arc{From: 3, Letter: 1, To: 4}, nfa.Arc{From: 3, Letter: 9, To: 4}, nfa.Arc{From: 4, Letter: 8, To: 2}, nfa.Arc{From: 4, Letter: 7, To: 1}, nfa.Arc{From: 0, Letter: 5, To: 3}, nfa.Arc{From: 1, Letter: 0, To: 0})
	sameSubsets(t, a, must(nfa.Determinize(a, 5)), subsetModel{
		sets: [][]int{{3}, {4}, {0}, {0, 1}, {2}}, finals: []bool{false, false, true, true, false},
		arcs: []nfa.Arc{{From: 0, Letter: 1, To: 1}, {From: 0, Letter: 2, To: 2}, {From: 0, Letter: 9, To: 1}, {From: 1, Letter: 7, To: 3}, {From: 1, Letter: 8, To: 4}, {From: 2, Letter: 5, To: 0}, {From: 3, Letter: 5, To: 0}},
	})
}

// P5.1, P5.3: without start states there is one state, the empty set, which is not final and has no arcs.
func TestDeterminizeWithoutStart(t *testing.T) {
	for _, a := range append(examples(), large()...) {
		a.Start = nil
		sameSubsets(t, a, must(nfa.Determinize(a, 1)), subsetModel{sets: [][]int{nil}, finals: []bool{false}})
	}
}

// P5.1: ErrLimit if there would be more states than the limit, and none with exactly so many.
func TestLimits(t *testing.T) {
	for _, a := range append(examples(), fromEnd(8)) {
		want, _ := determinized(a, 1000)
		for limit := -1; limit < len(want.sets)+3; limit++ {
			s, e := nfa.Determinize(a, limit)
			if limit < len(want.sets) {
				if e != api.ErrLimit || len(s.Sets)+len(s.Finals)+len(s.Arcs) > 0 {
					t.Fatalf("%v with the limit %d: got %v %s", a, limit, s, e.Name())
				}
				continue
			}
			sameSubsets(t, a, must(s, e), want)
		}
	}
}

// P5.1: a limit above 1000 counts as 1000, and one below 1 permits no automaton.
func TestGreatLimits(t *testing.T) {
	thousand, more := cycles(1, 8, 125), cycles(1, 7, 11, 13)
	want, _ := determinized(thousand, 1000)
	if len(want.sets) != 1000 {
		t.Fatalf("%d sets", len(want.sets))
	}
	for _, limit := range []int{1000, 1001, 1002, math.MaxInt} {
		sameSubsets(t, thousand, must(nfa.Determinize(thousand, limit)), want)
	}
	for _, limit := range []int{999, 500, 1, 0, -1, -1000, math.MinInt} {
		if s, e := nfa.Determinize(thousand, limit); e != api.ErrLimit || len(s.Sets)+len(s.Finals)+len(s.Arcs) > 0 {
			t.Errorf("the limit %d: got %v %s", limit, s, e.Name())
		}
	}
	for _, limit := range []int{1000, 1001, 1002, 2000, math.MaxInt} {
		for _, a := range []nfa.NFA{more, fromEnd(10), fromEnd(199)} {
			if s, e := nfa.Determinize(a, limit); e != api.ErrLimit || len(s.Sets)+len(s.Finals)+len(s.Arcs) > 0 {
				t.Errorf("the limit %d: got %d sets, %s", limit, len(s.Sets), e.Name())
			}
		}
	}
	for _, limit := range []int{0, -1, math.MinInt} {
		if _, e := nfa.Determinize(nfa.NFA{}, limit); e != api.ErrLimit {
			t.Errorf("without states, the limit %d: %s", limit, e.Name())
		}
	}
}

// P1, P5.1: about as many sets and arcs as there can be. All sets have the state 131, and 1868 letters lead to the set of this state alone.
func TestManyArcs(t *testing.T) {
	a := cycles(10000, 8, 123)
	loops := []nfa.Arc{{From: 131, Letter: 10000, To: 131}}
	for letter := 1; letter <= 1868; letter++ {
		loops = append(loops, nfa.Arc{From: 131, Letter: letter, To: 131})
	}
	a = made(132, append(a.Start, 131), marked(a.Finals), append(a.Arcs, loops...)...)
	s := must(nfa.Determinize(a, 1000))
	if len(a.Arcs) != 2000 || len(s.Sets) != 985 || len(s.Arcs) != 985*1869 {
		t.Errorf("%d arcs: %d sets, %d arcs", len(a.Arcs), len(s.Sets), len(s.Arcs))
	}
}

// P5.3: no two arcs of a state have the same letter, no two states are the same set, and only the first one may be empty.
func TestDeterministic(t *testing.T) {
	for _, a := range append(examples(), large()...) {
		s, e := nfa.Determinize(a, 1000)
		if e == api.ErrLimit {
			continue
		}
		for i, x := range s.Arcs {
			if i > 0 && (s.Arcs[i-1].From > x.From || s.Arcs[i-1].From == x.From && s.Arcs[i-1].Letter >= x.Letter) {
				t.Fatalf("%v: %v ahead of %v", a, s.Arcs[i-1], x)
			}
			if x.To < 0 || x.To >= len(s.Sets) || x.Letter < 1 || x.Letter > 10000 {
				t.Fatalf("%v: %v", a, x)
			}
		}
		seen := map[string]bool{}
		for i, set := range s.Sets {
			var name string
			for _, n := range bits.List(set) {
				name += string(rune(n + 1))
			}
			if seen[name] || i > 0 && name == "" {
				t.Fatalf("%v: the set %v", a, bits.List(set))
			}
			seen[name] = true
		}
	}
}

// P5.3: each word that the subset automaton can read leads to the set that the steps lead to; other words lead to the empty set.
func TestSubsetsRead(t *testing.T) {
	random := rand.New(rand.NewSource(53))
	for _, a := range append(examples(), large()...) {
		s, e := nfa.Determinize(a, 1000)
		if e == api.ErrLimit {
			continue
		}
		for range 40 {
			at, l := 0, closed(a, a.Start)
			for _, letter := range likely(random, a) {
				l = stepped(a, l, letter)
				i := slices.IndexFunc(s.Arcs, func(x nfa.Arc) bool { return x.From == at && x.Letter == letter })
				if i < 0 {
					if len(l) > 0 {
						t.Fatalf("%v: no arc from %d with %d, but a step to %v", a, at, letter, l)
					}
					break
				}
				at = s.Arcs[i].To
				sameSet(t, "a set", s.Sets[at], l)
			}
		}
	}
}

// P5.3: the subset automaton accepts the same words.
func TestSubsetsAccept(t *testing.T) {
	random := rand.New(rand.NewSource(54))
	for _, a := range append(examples(), large()...) {
		s, e := nfa.Determinize(a, 1000)
		if e == api.ErrLimit {
			continue
		}
		d := nfa.NFA{States: len(s.Sets), Start: []int{0}, Finals: s.Finals, Arcs: s.Arcs}
		for range 30 {
			word := likely(random, a)
			if ok := accepted(d, word); ok != must(nfa.Accepts(a, word)) {
				t.Fatalf("%v: %v is accepted: %v", a, word, ok)
			}
		}
	}
}
