package nfa_test

import (
	"math"
	"slices"
	"testing"

	"farandole/api"
	"farandole/bits"
	"farandole/nfa"
)

// P5.1: an automaton is valid if its numbers lie within the limits, and its lists ascend strictly.
func TestValid(t *testing.T) {
	for i, a := range append(examples(), large()...) {
		if !valid(a) || !nfa.Valid(a) {
			t.Errorf("%d: %v is valid", i, a)
		}
	}
	for i, a := range wrong() {
		if valid(a) || nfa.Valid(a) {
			t.Errorf("%d: %.200v is not valid", i, a)
		}
	}
	small(func(a nfa.NFA) {
		if !nfa.Valid(a) {
			t.Fatalf("%v is valid", a)
		}
	})
	if nfa.MaxLetter != 10000 || nfa.MaxStates != 200 || nfa.MaxArcs != 2000 {
		t.Error("the limits")
	}
}

// P5.1: exactly so many states and arcs are valid, and one more is not.
func TestValidAtTheLimits(t *testing.T) {
	for states := range 203 {
		a := nfa.NFA{States: states, Finals: make([]bool, states)}
		if nfa.Valid(a) != (states <= 200) {
			t.Errorf("%d states", states)
		}
		for _, number := range []int{states - 1, states + 1, -states - 1} {
			a.States = number
			if nfa.Valid(a) {
				t.Errorf("%d states, whose finals are %d", number, states)
			}
		}
	}
	for count := 1998; count <= 2002; count++ {
		a := made(1, nil, nil)
		for letter := range count {
			a.Arcs = append(a.Arcs, nfa.Arc{Letter: letter * 4})
		}
		if nfa.Valid(a) != (count <= 2000) {
			t.Errorf("%d arcs", count)
		}
	}
}

// P5.1: each start list of up to three numbers.
func TestValidStarts(t *testing.T) {
	words([]int{-1, 0, 1, 2}, 3, func(l []int) bool {
		a := nfa.NFA{States: 2, Start: l, Finals: make([]bool, 2)}
		if nfa.Valid(a) != valid(a) {
			t.Errorf("start %v: not %v", l, valid(a))
		}
		return true
	})
}

// P5.1: each pair of arcs with numbers at the limits and beyond them.
func TestValidArcs(t *testing.T) {
	var arcs []nfa.Arc
	for _, from := range []int{-1, 0, 1, 2} {
		for _, letter := range []int{math.MinInt, -1, 0, 1, 2, 9999, 10000, 10001, math.MaxInt} {
			for _, to := range []int{-1, 0, 1, 2} {
				arcs = append(arcs, nfa.Arc{From: from, Letter: letter, To: to})
			}
		}
	}
	for _, x := range arcs {
		for _, y := range arcs {
			a := nfa.NFA{States: 2, Finals: make([]bool, 2), Arcs: []nfa.Arc{x, y}}
			if nfa.Valid(a) != valid(a) {
				t.Fatalf("%v: not %v", a, valid(a))
			}
		}
	}
}

// ask calls all functions that return an error, and tests the error; the other results have to be zero values.
func ask(t *testing.T, a nfa.NFA, l []int, letter, limit int, ofAll, ofLists api.Errno) {
	t.Helper()
	test := func(name string, e, want api.Errno, zero bool) {
		t.Helper()
		if e != want || !zero {
			t.Errorf("%s of %.200v: got %s, want %s (zero values: %v)", name, a, e.Name(), want.Name(), zero)
		}
	}
	s, e := nfa.Closure(a, l)
	test("Closure", e, ofLists, len(s) == 0)
	s, e = nfa.Step(a, l, letter)
	test("Step", e, ofLists, len(s) == 0)
	if ofAll == api.OK {
		return
	}
	ok, e := nfa.Accepts(a, l)
	test("Accepts", e, ofAll, !ok)
	l, e = nfa.Letters(a)
	test("Letters", e, ofAll, len(l) == 0)
	l, e = nfa.Shortest(a)
	test("Shortest", e, ofAll, len(l) == 0)
	r, e := nfa.Reverse(a)
	test("Reverse", e, ofAll, r.States == 0 && len(r.Start) == 0 && len(r.Finals) == 0 && len(r.Arcs) == 0)
	d, e := nfa.Determinize(a, limit)
	test("Determinize", e, ofAll, len(d.Sets) == 0 && len(d.Finals) == 0 && len(d.Arcs) == 0)
}

// P1, P5.1: ErrArg if the automaton is not valid, ahead of all other errors.
func TestErrArg(t *testing.T) {
	for _, a := range wrong() {
		for _, number := range []int{0, 1, -1, 5, 1000, math.MinInt, math.MaxInt} {
			ask(t, a, []int{number}, number, number, api.ErrArg, api.ErrArg)
			ask(t, a, nil, number, 1000, api.ErrArg, api.ErrArg)
		}
	}
}

// P1, P5.1: ErrRange if a list has a number that is no state, wherever it stands, and also if the letter is none.
func TestErrRange(t *testing.T) {
	for _, a := range append(examples(), large()...) {
		all := make([]int, a.States)
		for n := range all {
			all[n] = n
		}
		for _, number := range []int{a.States, -1, a.States + 1, 64 * 64, math.MinInt, math.MaxInt} {
			for _, letter := range []int{1, 0, -1, 10001} {
				ask(t, a, []int{number}, letter, 0, api.OK, api.ErrRange)
				ask(t, a, append(slices.Clone(all), number), letter, 0, api.OK, api.ErrRange)
				ask(t, a, append([]int{number}, all...), letter, 0, api.OK, api.ErrRange)
			}
		}
	}
}

// P5.1: two automata, valid or not, are equal if their fields are.
func TestEqual(t *testing.T) {
	all := slices.Concat(examples()[1:30], large(), wrong())
	for i, a := range all {
		for k, b := range all {
			want := a.States == b.States && slices.Equal(a.Start, b.Start) && slices.Equal(a.Finals, b.Finals) && slices.Equal(a.Arcs, b.Arcs)
			if nfa.Equal(a, b) != want || i == k && !want {
				t.Errorf("%.200v and %.200v: not %v", a, b, want)
			}
		}
	}
	if !nfa.Equal(examples()[0], examples()[1]) {
		t.Error("nil and empty lists are equal")
	}
}

// P5.1: a change of any field, or of any part of a list, makes an automaton another one.
func TestEqualChanged(t *testing.T) {
	base := func() nfa.NFA {
		return made(3, []int{0, 1}, []int{2}, nfa.Arc{From: 0, Letter: 1, To: 1}, nfa.Arc{From: 1, Letter: 2, To: 2})
	}
	for i, change := range []func(a *nfa.NFA){
		func(a *nfa.NFA) { a.States = 4 }, func(a *nfa.NFA) { a.States = -3 }, func(a *nfa.NFA) { a.Start = nil }, func(a *nfa.NFA) { a.Start = a.Start[:1] },
		func(a *nfa.NFA) { a.Start[1] = 2 }, func(a *nfa.NFA) { a.Start[0] = -1 }, func(a *nfa.NFA) { a.Start = append(a.Start, 2) },
		func(a *nfa.NFA) { a.Finals = nil }, func(a *nfa.NFA) { a.Finals[0] = true }, func(a *nfa.NFA) { a.Finals[2] = false }, func(a *nfa.NFA) { a.Finals = append(a.Finals, false) },
		func(a *nfa.NFA) { a.Arcs = nil }, func(a *nfa.NFA) { a.Arcs = a.Arcs[:1] }, func(a *nfa.NFA) { a.Arcs = append(a.Arcs, nfa.Arc{}) },
		func(a *nfa.NFA) { a.Arcs[0].From = 1 }, func(a *nfa.NFA) { a.Arcs[1].Letter = 3 }, func(a *nfa.NFA) { a.Arcs[1].To = 0 },
	} {
		a := base()
		change(&a)
		if nfa.Equal(a, base()) || nfa.Equal(base(), a) || !nfa.Equal(a, a) {
			t.Errorf("change %d: %v", i, a)
		}
	}
	if !nfa.Equal(base(), base()) {
		t.Error("without a change")
	}
}

// P5.1: the letters of the arcs, each once, in ascending order, without 0.
func TestLetters(t *testing.T) {
	for i, a := range slices.Concat(examples(), large()) {
		if l, e := nfa.Letters(a); e != api.OK || !slices.Equal(l, letters(a)) {
			t.Errorf("%d: got %v %s, want %v", i, l, e.Name(), letters(a))
		}
	}
	a := made(3, nil, nil, nfa.Arc{From: 0, Letter: 9, To: 0}, nfa.Arc{From: 0, Letter: 10000, To: 0}, nfa.Arc{From: 1, Letter: 1, To: 2}, nfa.Arc{From: 1, Letter: 9, To: 2}, nfa.Arc{From: 2, Letter: 0, To: 0})
	if l, e := nfa.Letters(a); e != api.OK || !slices.Equal(l, []int{1, 9, 10000}) {
		t.Errorf("got %v %s", l, e.Name())
	}
}

// P5.1: an automaton without states has the empty set, no letters and no words.
func TestNothing(t *testing.T) {
	sameSet(t, "Closure", must(nfa.Closure(nfa.NFA{}, nil)), nil)
	sameSet(t, "Step", must(nfa.Step(nfa.NFA{}, nil, 1)), nil)
	sameNFA(t, "Reverse", must(nfa.Reverse(nfa.NFA{})), nfa.NFA{})
	if ok, e := nfa.Accepts(nfa.NFA{}, nil); ok || e != api.OK {
		t.Errorf("Accepts: %v %s", ok, e.Name())
	}
	if l, e := nfa.Letters(nfa.NFA{}); len(l) > 0 || e != api.OK {
		t.Errorf("Letters: %v %s", l, e.Name())
	}
	if l, e := nfa.Shortest(nfa.NFA{}); len(l) > 0 || e != api.ErrNone {
		t.Errorf("Shortest: %v %s", l, e.Name())
	}
	s, e := nfa.Determinize(nfa.NFA{}, 1)
	if e != api.OK || len(s.Sets) != 1 || bits.Len(s.Sets[0]) != 0 || !slices.Equal(s.Finals, []bool{false}) || len(s.Arcs) != 0 {
		t.Errorf("Determinize: %v %s", s, e.Name())
	}
}
