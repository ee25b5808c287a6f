package guard_test

import (
	"math"
	"slices"
	"strconv"
	"strings"
	"testing"
	"unsafe"

	"farandole/api"
	"farandole/guard"
	"farandole/syntax"
)

// P1: all functions return for long lists and texts, and extreme numbers.
func TestExtremes(t *testing.T) {
	long := strings.Repeat("a", 1000000)
	field := api.Field{Name: long, Sort: api.Sort{Kind: math.MaxInt, Lo: math.MinInt, Hi: math.MaxInt}}
	for _, l := range [][]syntax.Message{
		make([]syntax.Message, 1000000), {{Name: long}}, {{Name: "a", Fields: []api.Field{field}}}, {{Name: "a", Fields: make([]api.Field, 10000)}}, {{Name: "a", Where: make([]syntax.Atom, 1000000)}},
		{{Name: "a", Where: []syntax.Atom{{Left: syntax.Term{Kind: math.MinInt, Message: long, Field: long, N: math.MinInt}, Op: long}}}},
	} {
		if d, name, e := guard.Decls(l); len(d) > 0 || name != "" || e != api.ErrArg {
			t.Errorf("%d declarations, %q, %s", len(d), name, e.Name())
		}
	}
	good := mixed(t)
	values := [][]api.Value{nil, make([]api.Value, 100000), {{Kind: 1, N: math.MaxInt}}, {{Kind: 1, N: math.MinInt}}, {{Kind: 2, S: long}}, {{Kind: math.MaxInt, N: math.MinInt, S: long}}, make([]api.Value, 6), make([]api.Value, 4)}
	lists := [][]api.Decl{make([]api.Decl, 10000), {{Name: long}}, {{Name: "a", First: math.MaxInt}}, {{Name: "a", Fields: []api.Field{field}}}, {{Name: "a", Fields: make([]api.Field, 10000)}}, good}
	for _, n := range []int{math.MinInt, math.MaxInt} {
		s := api.Sort{Kind: 1, Lo: min(n, 0), Hi: max(n, 0)}
		lists = append(lists, []api.Decl{{Name: "a", Fields: []api.Field{{Name: "x", Sort: s}}}}, []api.Decl{{Name: "a", Guard: api.Guard{Diffs: []api.Diff{{X: n, Y: n, C: n}}}}}, []api.Decl{{Name: "a", Guard: api.Guard{Diffs: []api.Diff{{X: -1, Y: -1, C: n}}}}},
			[]api.Decl{{Name: "a", Guard: api.Guard{Equals: [][2]int{{n, n}}}}}, []api.Decl{{Name: "a", Guard: api.Guard{Diffs: make([]api.Diff, 10000)}}}, []api.Decl{{Name: "a", Guard: api.Guard{Equals: make([][2]int, 10000)}}})
	}
	for _, decls := range lists {
		for _, label := range []int{math.MinInt, -1, 0, 2, math.MaxInt} {
			for i, l := range values {
				check(t, question{decls, label, l, values[6]})
				check(t, question{decls, label, l, values[i]})
				check(t, question{decls, label, values[7], l})
			}
		}
	}
}

// roomy returns a copy of a list, with room behind it that has marks.
func roomy[T any](l []T, mark T) []T { return append(slices.Clone(l), mark, mark)[:len(l)] }

// whole returns a list up to its capacity.
func whole[T any](l []T) []T { return l[:cap(l)] }

var (
	markDecl  = api.Decl{Name: "mark", First: 777}
	markField = api.Field{Name: "mark"}
	markValue = api.Value{Kind: 77, S: "mark"}
	markDiff  = api.Diff{X: 777, Y: 777, C: 777}
	markPair  = [2]int{777, 777}
)

// roomyQuestion returns a copy with marked room behind all lists.
func roomyQuestion(q question) question {
	r := question{roomy(q.decls, markDecl), q.label, roomy(q.values, markValue), roomy(q.known, markValue)}
	for i, d := range r.decls {
		r.decls[i].Fields = roomy(d.Fields, markField)
		r.decls[i].Guard = api.Guard{Diffs: roomy(d.Guard.Diffs, markDiff), Equals: roomy(d.Guard.Equals, markPair)}
	}
	return r
}

// showWhole writes everything in a question, up to the capacities.
func showWhole(q question) string {
	s := show(whole(q.decls)) + show(whole(q.values)) + show(whole(q.known))
	for _, d := range q.decls {
		s += show(whole(d.Fields)) + show(whole(d.Guard.Diffs)) + show(whole(d.Guard.Equals))
	}
	return s
}

// fill writes to all places of the capacity of a list.
func fill[T any](l []T, mark T) {
	for i := range whole(l) {
		whole(l)[i] = mark
	}
}

func (s answers) overwrite() {
	fill(s.bounds, markDiff)
	fill(s.filled, markValue)
	fill(s.learnt, markValue)
}

func (q question) overwrite() {
	for _, d := range q.decls {
		fill(d.Fields, markField)
		fill(d.Guard.Diffs, markDiff)
		fill(d.Guard.Equals, markPair)
	}
	fill(q.decls, markDecl)
	fill(q.values, markValue)
	fill(q.known, markValue)
}

// P2: arguments are not modified, also not in their capacity, and share no memory with results; nor do results with each other.
func TestNothingIsShared(t *testing.T) {
	m := newMaker(9)
	for i := range 2000 {
		q := m.question(i%2 == 0)
		r := roomyQuestion(q)
		before := showWhole(r)
		first, second, want := answersOf(r), answersOf(r), answersOf(q)
		first.overwrite()
		if got := showWhole(r); got != before {
			t.Fatalf("%s is changed to %s", before, got)
		}
		if !second.equal(want) {
			t.Fatalf("%+v: the change of a result changes another one", q)
		}
		r.overwrite()
		if !second.equal(want) {
			t.Fatalf("%+v: the change of arguments changes a result", q)
		}
	}
}

// memory has the bytes of texts that can be changed.
type memory struct{ all [][]byte }

// text returns the same text in memory that can be changed.
func (m *memory) text(s string) string {
	if s == "" {
		return ""
	}
	b := []byte(s)
	m.all = append(m.all, b)
	return unsafe.String(&b[0], len(b))
}

// values returns the same values, with texts that can be changed.
func (m *memory) values(l []api.Value) []api.Value {
	l = slices.Clone(l)
	for i := range l {
		l[i].S = m.text(l[i].S)
	}
	return l
}

// change changes all of the texts.
func (m *memory) change() {
	for _, b := range m.all {
		for i := range b {
			b[i] = '?'
		}
	}
}

// P2: the texts of values in results are not those of arguments.
func TestTextsOfValues(t *testing.T) {
	m := newMaker(10)
	texts := 0
	for i := range 2000 {
		q := m.question(i%2 == 0)
		want := answersOf(q)
		var own memory
		got := answersOf(question{q.decls, q.label, own.values(q.values), own.values(q.known)})
		texts += len(own.all)
		own.change()
		if !got.equal(want) {
			t.Fatalf("%+v: %v is changed to %v", q, want, got)
		}
	}
	if texts < 1000 {
		t.Errorf("only %d texts", texts)
	}
}

// messages returns the same messages, with texts that can be changed.
func (m *memory) messages(l []syntax.Message) []syntax.Message {
	var out []syntax.Message
	term := func(t syntax.Term) syntax.Term {
		return syntax.Term{Kind: t.Kind, Message: m.text(t.Message), Field: m.text(t.Field), N: t.N}
	}
	for _, x := range l {
		c := syntax.Message{Name: m.text(x.Name)}
		for _, f := range x.Fields {
			c.Fields = append(c.Fields, api.Field{Name: m.text(f.Name), Sort: f.Sort})
		}
		for _, a := range x.Where {
			c.Where = append(c.Where, syntax.Atom{Left: term(a.Left), Op: m.text(a.Op), Right: term(a.Right)})
		}
		out = append(out, c)
	}
	return out
}

// P2: Decls does not modify the messages, and its results share no memory with them, or with those of another call.
func TestMemoryOfDecls(t *testing.T) {
	m := newMaker(11)
	for range 1500 {
		l := m.messages()
		want, wantName, wantError := guard.Decls(l)
		before, wanted := show(l), show(want)
		var texts memory
		changed := texts.messages(l)
		got, name, e := guard.Decls(changed)
		if show(changed) != before || show(l) != before {
			t.Fatalf("%s is changed to %s", before, show(changed))
		}
		for i := range want {
			fill(want[i].Fields, markField)
			fill(want[i].Guard.Diffs, markDiff)
			fill(want[i].Guard.Equals, markPair)
		}
		fill(want, markDecl)
		if show(l) != before {
			t.Fatalf("%s is changed to %s", before, show(l))
		}
		for i := range changed {
			fill(changed[i].Fields, markField)
		}
		texts.change()
		if show(got) != wanted || name != wantName || e != wantError {
			t.Fatalf("%s is changed to %s %q %s", wanted, show(got), name, e.Name())
		}
	}
}

// P2: no two declarations of a result have lists with common memory.
func TestListsOfDecls(t *testing.T) {
	d := declsOf(t, "message a(x: int 0..9, s: text 0..9) where x < 3 and s == b.s; message b(x: int 0..9, s: text 0..9) where x < 3 and s == s;")
	want := show(d[1])
	fill(d[0].Fields, markField)
	fill(d[0].Guard.Diffs, markDiff)
	fill(d[0].Guard.Equals, markPair)
	if got := show(d[1]); got != want {
		t.Errorf("%s is changed to %s", want, got)
	}
}

// P3: the same calls lead to the same results, whatever was called in between.
func TestSameAgain(t *testing.T) {
	m := newMaker(12)
	var all []question
	var first []answers
	var messages [][]syntax.Message
	var decls []string
	for i := range 1000 {
		q := m.question(i%2 == 0)
		all = append(all, q)
		first = append(first, answersOf(q))
		l := m.messages()
		d, name, e := guard.Decls(l)
		messages = append(messages, l)
		decls = append(decls, show(d)+name+e.Name())
	}
	for i, q := range slices.Backward(all) {
		if again := answersOf(q); !again.equal(first[i]) || !answersOf(roomyQuestion(q)).equal(again) {
			t.Fatalf("%+v: %v, then %v", q, first[i], again)
		}
		d, name, e := guard.Decls(messages[i])
		if got := show(d) + name + e.Name(); got != decls[i] {
			t.Fatalf("%s, then %s", decls[i], got)
		}
	}
}

func FuzzGuard(f *testing.F) {
	f.Add("message a(x: int 0..9, s: text 0..5); message b(y: int -3..3, u: text 1..4) where y < a.x - 1 and u == a.s and len(u) >= 2;", "3,ab,0,xyz", "1,ab", 1)
	f.Add("message b(p: text 0..5, q: text 1..5) where q == p and len(q) > 3;", ",", "aaaa,aaaa", 0)
	// valuesFor reads values for fields.
	valuesFor := func(l []api.Field, s string) []api.Value {
		var out []api.Value
		for i, part := range strings.Split(s, ",") {
			n, e := strconv.Atoi(part)
			switch {
			case part == "":
				out = append(out, api.Value{})
			case e == nil && (i >= len(l) || l[i].Sort.Kind == api.SortInt):
				out = append(out, num(n))
			default:
				out = append(out, str(part))
			}
		}
		return out
	}
	f.Fuzz(func(t *testing.T, source, known, values string, label int) {
		l, _, e := syntax.Parse("protocol P(A) { " + source + " }")
		if e != api.OK || len(l) == 0 {
			return
		}
		decls, e := checkDecls(t, l[0].Messages)
		if e != api.OK {
			return
		}
		var fields []api.Field
		if between(0, label, len(decls)-1) {
			fields = decls[label].Fields
		}
		q := question{decls, label, valuesFor(fields, values), valuesFor(fieldsOf(decls), known)}
		q.values = q.values[:min(len(q.values), max(1, len(fields)))]
		if s := check(t, q); s.fill {
			q.values = s.filled
			check(t, q)
		}
		q.known = make([]api.Value, len(fieldsOf(decls)))
		check(t, q)
	})
}
