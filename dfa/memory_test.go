package dfa_test

import (
	"math/rand"
	"slices"
	"testing"

	"farandole/api"
	"farandole/dfa"
	"farandole/nfa"
)

const mark = 123456789

var markedArc = nfa.Arc{From: mark, Letter: mark, To: mark}

// room returns a copy of a list, with room behind it that is marked.
func room[T any](l []T, marked T) []T {
	return append(slices.Clone(l), marked, marked, marked)[:len(l)]
}

// stays tests that a copy with room is as the list was, and the room behind it, too.
func stays[T comparable](t *testing.T, r, l []T, marked T) {
	t.Helper()
	if !slices.Equal(r, l) || !slices.Equal(r[:len(l)+3][len(l):], []T{marked, marked, marked}) {
		t.Fatalf("%.500v is changed to %.500v", l, r[:len(l)+3])
	}
}

// arguments are those of all functions.
type arguments struct {
	a, b    dfa.DFA
	free    nfa.NFA
	word    []int
	n, most int
}

// roomy returns a copy of arguments, with marked room behind their lists.
func roomy(x arguments) arguments {
	d := func(d dfa.DFA) dfa.DFA {
		return dfa.DFA{States: d.States, Start: d.Start, Finals: room(d.Finals, true), Arcs: room(d.Arcs, markedArc)}
	}
	free := nfa.NFA{States: x.free.States, Start: room(x.free.Start, mark), Finals: room(x.free.Finals, true), Arcs: room(x.free.Arcs, markedArc)}
	return arguments{d(x.a), d(x.b), free, room(x.word, mark), x.n, x.most}
}

// staysAll tests that the roomy copy of arguments is as it was.
func staysAll(t *testing.T, r, x arguments) {
	t.Helper()
	for _, both := range [][2]dfa.DFA{{r.a, x.a}, {r.b, x.b}} {
		stays(t, both[0].Finals, both[1].Finals, true)
		stays(t, both[0].Arcs, both[1].Arcs, markedArc)
	}
	stays(t, r.free.Start, x.free.Start, mark)
	stays(t, r.free.Finals, x.free.Finals, true)
	stays(t, r.free.Arcs, x.free.Arcs, markedArc)
	stays(t, r.word, x.word, mark)
}

// overwrite writes to all places of the lists of arguments.
func overwrite(x arguments) {
	for _, d := range []dfa.DFA{x.a, x.b} {
		flip(d.Finals)
		fill(d.Arcs, nfa.Arc{From: -mark})
	}
	fill(x.free.Start, -mark)
	flip(x.free.Finals)
	fill(x.free.Arcs, nfa.Arc{From: -mark})
	fill(x.word, -mark)
}

// fill writes a value to all places of a list's capacity.
func fill[T any](l []T, value T) {
	l = l[:cap(l)]
	for i := range l {
		l[i] = value
	}
}

// flip changes all places of a list's capacity.
func flip(l []bool) {
	l = l[:cap(l)]
	for i := range l {
		l[i] = !l[i]
	}
}

// results are those of all functions: automata, lists of numbers, and others.
type results struct {
	forms  []dfa.DFA
	list   [][]int
	words  [][]int
	others []any
}

// resultsOf calls all functions.
func resultsOf(x arguments) results {
	var all results
	form := func(d dfa.DFA, e api.Errno) {
		all.forms, all.others = append(all.forms, d), append(all.others, e)
	}
	form(dfa.Canonical(x.a))
	form(dfa.Trim(x.a))
	form(dfa.Minimize(x.a))
	form(dfa.Product(x.a, x.b))
	form(dfa.From(x.free, x.most))
	word, ok, e := dfa.Included(x.a, x.b)
	all.words, all.others = append(all.words, word), append(all.others, ok, e)
	list, e := dfa.Words(x.a, x.n, x.most)
	all.list, all.words, all.others = list, append(all.words, list...), append(all.others, e)
	ok, e = dfa.Accepts(x.a, x.word)
	all.others = append(all.others, ok, e, dfa.Valid(x.a), dfa.Equal(x.a, x.b))
	n, ok := dfa.Next(x.a, x.n, x.most)
	all.others = append(all.others, n, ok)
	return all
}

// copied returns a copy of results that shares no memory with them.
func copied(r results) results {
	c := results{others: slices.Clone(r.others)}
	for _, d := range r.forms {
		c.forms = append(c.forms, dfa.DFA{States: d.States, Start: d.Start, Finals: slices.Clone(d.Finals), Arcs: slices.Clone(d.Arcs)})
	}
	for _, word := range r.list {
		c.list = append(c.list, slices.Clone(word))
	}
	for _, word := range r.words {
		c.words = append(c.words, slices.Clone(word))
	}
	return c
}

// sameResults tests that results are as they were.
func sameResults(t *testing.T, what string, got, want results) {
	t.Helper()
	if !slices.EqualFunc(got.forms, want.forms, equal) || !sameLists(got.list, want.list) || !sameLists(got.words, want.words) || !slices.Equal(got.others, want.others) {
		t.Fatalf("%s: got %.2000v, want %.2000v", what, got, want)
	}
}

// writers returns for each list of results, but that of the words, a function that overwrites it, and one that restores it.
func writers(r results) (overwrite, restore []func()) {
	for _, d := range r.forms {
		arcs := d.Arcs[:cap(d.Arcs)]
		old := slices.Clone(arcs)
		overwrite = append(overwrite, func() { flip(d.Finals) }, func() { fill(arcs, markedArc) })
		restore = append(restore, func() { flip(d.Finals) }, func() { copy(arcs, old) })
	}
	for _, word := range r.words {
		word := word[:cap(word)]
		old := slices.Clone(word)
		overwrite, restore = append(overwrite, func() { fill(word, mark) }), append(restore, func() { copy(word, old) })
	}
	return overwrite, restore
}

// differences returns how many lists of results differ.
func differences(a, b results) int {
	n := 0
	count := func(same bool) {
		if !same {
			n++
		}
	}
	for i := range a.forms {
		count(slices.Equal(a.forms[i].Finals, b.forms[i].Finals))
		count(slices.Equal(a.forms[i].Arcs, b.forms[i].Arcs))
	}
	for i := range a.words {
		count(slices.Equal(a.words[i], b.words[i]))
	}
	return n
}

// eachCall calls f with automata, valid ones and others, and with other arguments.
func eachCall(f func(x arguments)) {
	random := rand.New(rand.NewSource(74))
	valid := examples()
	all := slices.Concat(valid, large()[:6], wrong())
	for i, a := range all {
		x := arguments{a: a, b: valid[random.Intn(len(valid))], free: freely(random, 1+random.Intn(6), 2, 12), word: random.Perm(4), n: random.Intn(7), most: 1 + random.Intn(30)}
		if len(a.Arcs) <= 50 && i < len(valid) {
			x.word = likely(random, a)
		}
		f(x)
		x.a, x.b, x.n, x.most = x.b, x.a, 3, 1000
		f(x)
		x.a, x.b, x.free.States = a, a, -1
		f(x)
	}
}

// P2, P6.1: arguments are not modified, also not in their capacity.
func TestArgumentsStay(t *testing.T) {
	eachCall(func(x arguments) {
		r := roomy(x)
		resultsOf(r)
		staysAll(t, r, x)
	})
}

// P2, P6.1: a change of the arguments changes no result, and a change of the results no argument.
func TestArgumentsApart(t *testing.T) {
	eachCall(func(x arguments) {
		r := roomy(x)
		got := resultsOf(r)
		want := copied(got)
		overwrite(r)
		sameResults(t, "behind a change of the arguments", got, want)
		r = roomy(x)
		write, _ := writers(resultsOf(r))
		for _, f := range write {
			f()
		}
		staysAll(t, r, x)
	})
}

// P2, P6.1: no two lists of results share memory. Each one is overwritten alone, and all others stay.
func TestResultsApart(t *testing.T) {
	eachCall(func(x arguments) {
		if x.a.States > 30 || x.b.States > 30 || len(x.a.Arcs)+len(x.b.Arcs) > 200 {
			return
		}
		x.n, x.most = 4, 50
		got := resultsOf(x)
		want := copied(got)
		write, restore := writers(got)
		for i := range write {
			write[i]()
			changed := copied(got)
			restore[i]()
			if n := differences(changed, want); n > 1 {
				t.Fatalf("%v: a change of the list %d changes %d lists", x, i, n)
			}
		}
		sameResults(t, "restored", got, want)
	})
}

// P2: results of two calls share no memory.
func TestCallsApart(t *testing.T) {
	eachCall(func(x arguments) {
		first, again := resultsOf(x), resultsOf(x)
		want := copied(again)
		write, _ := writers(first)
		for _, f := range write {
			f()
		}
		fill(first.list, []int{mark})
		sameResults(t, "behind a change of other results", again, want)
	})
}

// P2: the lists of two automata may be the same memory.
func TestSharedArguments(t *testing.T) {
	arcs := cycle(6, 2).Arcs
	finals := []bool{true, false, true, false, false, true}
	a, b := dfa.DFA{States: 3, Finals: finals[:3], Arcs: arcs[:4]}, dfa.DFA{States: 4, Start: 1, Finals: finals[2:], Arcs: arcs[:6]}
	x := arguments{a: a, b: b, word: []int{1, 2}, n: 5, most: 9}
	sameResults(t, "shared lists", resultsOf(x), resultsOf(roomy(x)))
	if !slices.Equal(arcs, cycle(6, 2).Arcs) || !slices.Equal(finals, []bool{true, false, true, false, false, true}) {
		t.Errorf("changed to %v and %v", arcs, finals)
	}
}

// P3: the same calls lead to the same results, whatever was called in between.
func TestSameAgain(t *testing.T) {
	var calls []arguments
	var first []results
	eachCall(func(x arguments) {
		calls, first = append(calls, x), append(first, resultsOf(x))
	})
	for i, x := range slices.Backward(calls) {
		sameResults(t, "the same call", resultsOf(x), first[i])
	}
}

// dfaOf returns the automaton that bytes describe: a number of states, a start state, marks of final states, and arcs of three bytes each. If tidy, its numbers are brought into the limits, and its arcs are sorted.
func dfaOf(data []byte, tidy bool) dfa.DFA {
	if len(data) < 3 {
		return dfa.DFA{}
	}
	d := dfa.DFA{States: int(data[0] % 7), Start: int(data[1]) - 1}
	marks := data[2]
	var l []nfa.Arc
	for data = data[3:]; len(data) >= 3; data = data[3:] {
		l = append(l, nfa.Arc{From: int(data[0]) - 1, Letter: int(data[1]), To: int(data[2]) - 1})
	}
	if !tidy || d.States == 0 {
		for n := range d.States {
			d.Finals = append(d.Finals, marks>>n&1 == 1)
		}
		d.Arcs = l
		return d
	}
	for i := range l {
		l[i] = nfa.Arc{From: (l[i].From + 1) % d.States, Letter: 1 + l[i].Letter%3, To: (l[i].To + 1) % d.States}
	}
	var finals []int
	for n := range d.States {
		if marks>>n&1 == 1 {
			finals = append(finals, n)
		}
	}
	return made(d.States, (d.Start+1)%d.States, finals, l...)
}

func FuzzDFA(f *testing.F) {
	f.Add([]byte{}, []byte{}, []byte{}, false)
	f.Add([]byte{3, 1, 6, 1, 1, 2, 2, 1, 3, 3, 1, 2}, []byte{2, 2, 1, 1, 1, 2, 2, 1, 1}, []byte{1, 1}, false)
	f.Add([]byte{6, 2, 9, 0, 0, 1, 1, 1, 2, 2, 2, 3, 3, 0, 4, 4, 1, 5, 5, 2, 0}, []byte{4, 0, 2, 0, 0, 1, 1, 1, 2, 2, 2, 3, 3, 1, 0}, []byte{1, 2, 3}, true)
	f.Fuzz(func(t *testing.T, first, second, text []byte, tidy bool) {
		a, b := dfaOf(first, tidy), dfaOf(second, tidy)
		var word []int
		for _, c := range text {
			word = append(word, int(c)-1)
		}
		if dfa.Valid(a) != valid(a) {
			t.Fatalf("%v: not %v", a, valid(a))
		}
		ok, e := dfa.Accepts(a, word)
		if !valid(a) || !valid(b) {
			if !valid(a) && (ok || e != api.ErrArg) {
				t.Fatalf("%v: got %v %s", a, ok, e.Name())
			}
			if _, e := dfa.Product(a, b); e != api.ErrArg {
				t.Fatalf("%v and %v: got %s", a, b, e.Name())
			}
			return
		}
		if e != api.OK || ok != accepted(a, word) {
			t.Fatalf("%v: %v: got %v %s", a, word, ok, e.Name())
		}
		testForms(t, a)
		testIncluded(t, a, b)
		sameDFA(t, "Product", must(dfa.Product(a, b)), multiplied(a, b))
		if len(letters(a)) <= 3 {
			testWords(t, a, 4)
		}
	})
}
