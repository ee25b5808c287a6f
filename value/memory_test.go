package value_test

import (
	"fmt"
	"math"
	"slices"
	"strings"
	"testing"
	"unsafe"

	"farandole/api"
	"farandole/value"
)

// P15.1: random arguments for all functions, by their definitions.
func TestRandom(t *testing.T) {
	m := newMaker(12)
	for range 30000 {
		check(t, m.question())
	}
}

// P1: all functions return for long lists and strings, and extreme numbers.
func TestExtremes(t *testing.T) {
	const many = 100000
	long := strings.Repeat("a", many)
	for _, n := range []int{math.MinInt, -1, 0, 1, math.MaxInt} {
		for _, kind := range []int{math.MinInt, 0, 1, 2, 3, math.MaxInt} {
			for _, s := range []string{"", long, strings.Repeat("\x00", many), strings.Repeat(`"`, many)} {
				a := api.Value{Kind: kind, N: n, S: s}
				b := api.Value{Kind: -1 - kind, N: -1 - n, S: s + "a"}
				l := []api.Value{a, b}
				check(t, question{sort: api.Sort{Kind: kind, Lo: n, Hi: -1 - n}, a: a, b: b, fields: []api.Field{{Name: s, Sort: api.Sort{Kind: kind, Lo: n, Hi: n}}, {}}, l: l, m: l})
			}
		}
	}
	for _, s := range []string{"1", "-", "0", "9", `"`, `\`, `\"`, "a", "(", ")", ", ", "(1, ", `"", `, "0, ", "\x00", "é"} {
		all := strings.Repeat(s, many)
		for _, s := range []string{all, `"` + all, `"` + all + `"`, "(" + all, "(" + all + ")", "(" + all + "1)", "1" + all, "-1" + all, `("` + all + `")`} {
			v, e := value.Parse(s)
			if want, wantError := parse(s); v != want || e != wantError {
				t.Errorf("%d bytes as %.20q: %s", len(s), s, e.Name())
			}
			l, e := value.ParseList(s)
			if want, wantError := parseList(s); !slices.Equal(l, want) || e != wantError {
				t.Errorf("%d bytes as %.20q: %s", len(s), s, e.Name())
			}
		}
	}
	testManyValues(t, slices.Repeat([]api.Value{num(1)}, many), slices.Repeat([]api.Field{{Sort: ints(1, 1)}}, many))
}

// testManyValues tests the functions of lists with values that fit their fields.
func testManyValues(t *testing.T, l []api.Value, fields []api.Field) {
	t.Helper()
	if !value.Same(l, slices.Clone(l)) || value.Same(l, l[1:]) || !value.FitsAll(fields, l) || value.FitsAll(fields, l[1:]) || value.FitsAll(fields[1:], l) {
		t.Error("many values are not the same, or do not fit")
	}
	if all, e := value.LeastAll(fields); e != api.OK || !slices.Equal(all, l) {
		t.Error("LeastAll", len(all), e)
	}
	s := value.ShowList(l)
	if len(s) != 3*len(l) {
		t.Error("ShowList", len(s))
	}
	if got, e := value.ParseList(s); len(got) > 0 || e != api.ErrLimit {
		t.Error("ParseList", len(got), e)
	}
}

// whole returns a list up to its capacity.
func whole[T any](l []T) []T { return l[:cap(l)] }

// roomy returns a copy of a list, with room behind it that has marks.
func roomy[T any](l []T, mark T) []T { return append(slices.Clone(l), mark, mark)[:len(l)] }

// fill writes to all places of the capacity of a list.
func fill[T any](l []T, mark T) {
	for i := range whole(l) {
		whole(l)[i] = mark
	}
}

var (
	markValue = api.Value{Kind: 77, N: 777, S: "mark"}
	markField = api.Field{Name: "mark", Sort: api.Sort{Kind: 77}}
)

// P2: lists of arguments are not modified, also not in their capacity, and share no memory with results; nor do results with each other.
func TestNothingIsShared(t *testing.T) {
	m := newMaker(13)
	for range 5000 {
		q := m.question()
		r := q
		r.fields, r.l, r.m = roomy(q.fields, markField), roomy(q.l, markValue), roomy(q.m, markValue)
		showWhole := func() string { return fmt.Sprintf("%q %+v %+v %+v", r.s, whole(r.fields), whole(r.l), whole(r.m)) }
		before := showWhole()
		first, second, want := answersOf(r), answersOf(r), answersOf(q)
		fill(first.leastAll, markValue)
		fill(first.list, markValue)
		if got := showWhole(); got != before {
			t.Fatalf("%s is changed to %s", before, got)
		}
		fill(r.fields, markField)
		fill(r.l, markValue)
		fill(r.m, markValue)
		if !second.equal(want) {
			t.Fatalf("%+v: a change leads to %+v", want, second)
		}
	}
}

// memory has the bytes of strings that can be changed.
type memory struct{ all [][]byte }

// own returns the same string in memory that can be changed.
func (m *memory) own(s string) string {
	if s == "" {
		return ""
	}
	b := []byte(s)
	m.all = append(m.all, b)
	return unsafe.String(&b[0], len(b))
}

func (m *memory) values(l []api.Value) []api.Value {
	var out []api.Value
	for _, v := range l {
		v.S = m.own(v.S)
		out = append(out, v)
	}
	return out
}

// question returns the same question, all strings of which can be changed.
func (m *memory) question(q question) question {
	q.s, q.a.S, q.b.S = m.own(q.s), m.own(q.a.S), m.own(q.b.S)
	q.l, q.m, q.fields = m.values(q.l), m.values(q.m), slices.Clone(q.fields)
	for i := range q.fields {
		q.fields[i].Name = m.own(q.fields[i].Name)
	}
	return q
}

// change changes all of the strings.
func (m *memory) change() {
	for _, b := range m.all {
		for i := range b {
			b[i] = '#'
		}
	}
}

// P2: the memory of the strings of arguments is neither changed nor part of a result.
func TestStrings(t *testing.T) {
	m := newMaker(14)
	clamped, parsed := 0, 0
	for range 20000 {
		q := m.question()
		var all memory
		own := all.question(q)
		got, want := answersOf(own), answersOf(q)
		if before, after := fmt.Sprintf("%+v", q), fmt.Sprintf("%+v", own); before != after {
			t.Fatalf("%s is changed to %s", before, after)
		}
		all.change()
		if !got.equal(want) {
			t.Fatalf("%+v: a change of strings leads to %+v", want, got)
		}
		clamped += len(got.clamped.S)
		parsed += len(got.parsed.S) + len(got.list)
	}
	if clamped < 1000 || parsed < 1000 {
		t.Errorf("only %d bytes of texts are clamped, and %d are read", clamped, parsed)
	}
}

// P3: the same calls lead to the same results, whatever was called in between.
func TestSameAgain(t *testing.T) {
	m := newMaker(15)
	var all []question
	var first []answers
	for range 5000 {
		q := m.question()
		all = append(all, q)
		first = append(first, answersOf(q))
	}
	for i, q := range slices.Backward(all) {
		if again := answersOf(q); !again.equal(first[i]) {
			t.Fatalf("%+v: %+v, then %+v", q, first[i], again)
		}
	}
}

func FuzzValue(f *testing.F) {
	m := newMaker(16)
	for range 30 {
		f.Add(m.notation(), m.notations(), 1+m.Intn(2), m.Intn(50)-25, m.Intn(50)-25)
	}
	f.Add("-1000", `(1, "a\"b", -1)`, api.SortText, 0, 40)
	f.Fuzz(func(t *testing.T, a, b string, kind, lo, hi int) {
		s := api.Sort{Kind: kind, Lo: lo, Hi: hi}
		for _, v := range []api.Value{{Kind: kind, N: lo, S: a}, num(lo), text(a), text(b)} {
			other := api.Value{Kind: kind, N: hi, S: b}
			fields := []api.Field{{Name: a, Sort: s}, {Name: b, Sort: s}}
			check(t, question{sort: s, a: v, b: other, s: a, fields: fields, l: []api.Value{v, v}, m: []api.Value{v, other}})
			check(t, question{sort: s, a: other, b: v, s: b, fields: fields[:1], l: []api.Value{v}, m: []api.Value{v}})
		}
		if isValue(text(a)) {
			returns(t, text(a))
		}
	})
}
