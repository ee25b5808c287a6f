package dfa_test

import (
	"math"
	"slices"
	"testing"

	"farandole/api"
	"farandole/dfa"
	"farandole/nfa"
)

// P6.1: an automaton is valid if its numbers lie within the limits, and its arcs ascend strictly by From and Letter.
func TestValid(t *testing.T) {
	for i, d := range append(examples(), large()...) {
		if !valid(d) || !dfa.Valid(d) {
			t.Errorf("%d: %.2000v is valid", i, d)
		}
	}
	for i, d := range wrong() {
		if valid(d) || dfa.Valid(d) {
			t.Errorf("%d: %.2000v is not valid", i, d)
		}
	}
	small(func(d dfa.DFA) {
		if !dfa.Valid(d) {
			t.Fatalf("%v is valid", d)
		}
	})
	if dfa.MaxStates != 1000 || dfa.MaxArcs != 20000 {
		t.Error("the limits")
	}
}

// P6.1: from 1 to 1000 states, with a final mark for each, and a start state among them.
func TestValidStates(t *testing.T) {
	for n := range 1003 {
		d := dfa.DFA{States: n, Finals: make([]bool, n)}
		if dfa.Valid(d) != (1 <= n && n <= 1000) {
			t.Errorf("%d states", n)
		}
		for _, number := range []int{n - 1, n + 1, -n - 1} {
			d.States = number
			if dfa.Valid(d) {
				t.Errorf("%d states, whose finals are %d", number, n)
			}
		}
	}
	for start := -2; start <= 5; start++ {
		if dfa.Valid(dfa.DFA{States: 4, Start: start, Finals: make([]bool, 4)}) != (0 <= start && start < 4) {
			t.Errorf("the start state %d", start)
		}
	}
}

// P6.1: at most 20000 arcs.
func TestValidNumberOfArcs(t *testing.T) {
	all := cycle(3, 10000, 0)
	for count := 19998; count <= 20002; count++ {
		d := all
		d.Arcs = all.Arcs[:count]
		if dfa.Valid(d) != (count <= 20000) {
			t.Errorf("%d arcs", count)
		}
	}
}

// P6.1: each pair of arcs with numbers at the limits and beyond them.
func TestValidArcs(t *testing.T) {
	var l []nfa.Arc
	for _, from := range []int{-1, 0, 1, 2} {
		for _, letter := range []int{math.MinInt, -1, 0, 1, 2, 9999, 10000, 10001, math.MaxInt} {
			for _, to := range []int{-1, 0, 1, 2} {
				l = append(l, nfa.Arc{From: from, Letter: letter, To: to})
			}
		}
	}
	for _, x := range l {
		for _, y := range l {
			d := dfa.DFA{States: 2, Finals: make([]bool, 2), Arcs: []nfa.Arc{x, y}}
			if dfa.Valid(d) != valid(d) {
				t.Fatalf("%v: not %v", d, valid(d))
			}
		}
	}
}

// P1, P6.1: ErrArg if an automaton is not valid, ahead of all other errors and whatever the other arguments are; the other results are zero values.
func TestErrArg(t *testing.T) {
	isZero := func(d dfa.DFA) bool { return d.States == 0 && d.Start == 0 && len(d.Finals)+len(d.Arcs) == 0 }
	for i, d := range wrong() {
		test := func(name string, e api.Errno, zero bool) {
			t.Helper()
			if e != api.ErrArg || !zero {
				t.Errorf("%d: %s: got %s (zero values: %v)", i, name, e.Name(), zero)
			}
		}
		for name, f := range map[string]func(dfa.DFA) (dfa.DFA, api.Errno){"Canonical": dfa.Canonical, "Trim": dfa.Trim, "Minimize": dfa.Minimize} {
			r, e := f(d)
			test(name, e, isZero(r))
		}
		for _, number := range []int{0, 1, -1, 5, 1000, math.MinInt, math.MaxInt} {
			ok, e := dfa.Accepts(d, []int{number})
			test("Accepts", e, !ok)
			l, e := dfa.Words(d, number, number)
			test("Words", e, len(l) == 0)
		}
		ok, e := dfa.Accepts(d, nil)
		test("Accepts", e, !ok)
		for _, other := range []dfa.DFA{sample(), nothing(), cycle(1000, 20, 0), {}, d} {
			for _, both := range [][2]dfa.DFA{{d, other}, {other, d}} {
				word, ok, e := dfa.Included(both[0], both[1])
				test("Included", e, len(word) == 0 && !ok)
				r, e := dfa.Product(both[0], both[1])
				test("Product", e, isZero(r))
			}
		}
	}
}

// P6.1: two automata, valid or not, are equal if their fields are.
func TestEqual(t *testing.T) {
	all := slices.Concat(examples()[:40], large(), wrong())
	for i, a := range all {
		for k, b := range all {
			if dfa.Equal(a, b) != equal(a, b) || i == k && !dfa.Equal(a, b) {
				t.Errorf("%.200v and %.200v: not %v", a, b, equal(a, b))
			}
		}
	}
	if !dfa.Equal(dfa.DFA{States: 1}, dfa.DFA{States: 1, Finals: []bool{}, Arcs: []nfa.Arc{}}) {
		t.Error("nil and empty lists are equal")
	}
}

// P6.1: a change of any field, or of any part of a list, makes an automaton another one.
func TestEqualChanged(t *testing.T) {
	for i, change := range []func(d *dfa.DFA){
		func(d *dfa.DFA) { d.States = 4 }, func(d *dfa.DFA) { d.States = -3 }, func(d *dfa.DFA) { d.Start = 1 }, func(d *dfa.DFA) { d.Start = -1 },
		func(d *dfa.DFA) { d.Finals = nil }, func(d *dfa.DFA) { d.Finals[0] = true }, func(d *dfa.DFA) { d.Finals[2] = false }, func(d *dfa.DFA) { d.Finals = append(d.Finals, false) },
		func(d *dfa.DFA) { d.Arcs = nil }, func(d *dfa.DFA) { d.Arcs = d.Arcs[:2] }, func(d *dfa.DFA) { d.Arcs = append(d.Arcs, nfa.Arc{}) },
		func(d *dfa.DFA) { d.Arcs[0].From = 1 }, func(d *dfa.DFA) { d.Arcs[1].Letter = 3 }, func(d *dfa.DFA) { d.Arcs[2].To = 0 },
	} {
		d := sample()
		change(&d)
		if dfa.Equal(d, sample()) || dfa.Equal(sample(), d) || !dfa.Equal(d, d) {
			t.Errorf("change %d: %v", i, d)
		}
	}
	if !dfa.Equal(sample(), sample()) {
		t.Error("without a change")
	}
}
