package guard_test

import (
	"fmt"
	"regexp"
	"slices"
	"strings"
	"testing"

	"farandole/api"
	"farandole/guard"
	"farandole/lex"
)

func num(n int) api.Value    { return api.Value{Kind: api.SortInt, N: n} }
func str(s string) api.Value { return api.Value{Kind: api.SortText, S: s} }

// between reports whether n is from a to b.
func between(a, n, b int) bool { return a <= n && n <= b }

// isPath reports whether a string is a path, by the definition.
func isPath(s string) bool {
	return len(s) <= 50 && !slices.ContainsFunc(strings.Split(s, "."), func(word string) bool { return !lex.IsWord(word) })
}

// fieldsOf returns all fields of declarations.
func fieldsOf(decls []api.Decl) []api.Field {
	var l []api.Field
	for _, d := range decls {
		l = append(l, d.Fields...)
	}
	return l
}

// valid reports whether declarations are valid, by the definition.
func valid(decls []api.Decl) bool {
	all := fieldsOf(decls)
	if len(decls) > 40 || len(all) > 24 {
		return false
	}
	first := 0
	for i, d := range decls {
		if !isPath(d.Name) || slices.ContainsFunc(decls[:i], func(other api.Decl) bool { return other.Name == d.Name }) || len(d.Fields) > 4 || d.First != first {
			return false
		}
		first += len(d.Fields)
		for j, f := range d.Fields {
			if !lex.IsWord(f.Name) || slices.ContainsFunc(d.Fields[:j], func(other api.Field) bool { return other.Name == f.Name }) || f.Sort.Lo > f.Sort.Hi {
				return false
			}
			least, most, ok := -1000, 1000, f.Sort.Kind == 1 || f.Sort.Kind == 2
			if f.Sort.Kind == 2 {
				least, most = 0, 40
			}
			if !ok || f.Sort.Lo < least || f.Sort.Hi > most {
				return false
			}
		}
		if len(d.Guard.Diffs) > 20 || len(d.Guard.Equals) > 20 {
			return false
		}
		for _, b := range d.Guard.Diffs {
			if !between(-1, b.X, len(all)-1) || !between(-1, b.Y, len(all)-1) || !between(-20000, b.C, 20000) {
				return false
			}
		}
		for _, pair := range d.Guard.Equals {
			for _, x := range pair {
				if !between(0, x, len(all)-1) || all[x].Sort.Kind != 2 {
					return false
				}
			}
		}
	}
	return true
}

// printable has the texts of bytes from 32 to 126.
var printable = regexp.MustCompile(`^[ -~]*$`)

// fits reports whether a value fits a sort, by the definition.
func fits(s api.Sort, v api.Value) bool {
	if v.Kind != s.Kind {
		return false
	}
	if s.Kind == 1 {
		return between(s.Lo, v.N, s.Hi) && v.S == ""
	}
	return between(s.Lo, len(v.S), s.Hi) && v.N == 0 && printable.MatchString(v.S)
}

// allFit reports whether values fit the sorts of fields, or are not known, where this is permitted.
func allFit(fields []api.Field, values []api.Value, unknown bool) bool {
	if len(fields) != len(values) {
		return false
	}
	for i, f := range fields {
		if !fits(f.Sort, values[i]) && !(unknown && values[i] == api.Value{}) {
			return false
		}
	}
	return true
}

// places has what a variable is, and its number, in a guard.
type places struct {
	d     api.Decl
	known []api.Value
}

// own reports whether a variable is one of the declaration, and returns which one.
func (p places) own(x int) (int, bool) {
	return x - p.d.First, between(p.d.First, x, p.d.First+len(p.d.Fields)-1)
}

// value returns the value of a variable, where those of the declaration have the given ones.
func (p places) value(x int, values []api.Value) api.Value {
	if x == -1 {
		return num(0)
	}
	if i, ok := p.own(x); ok {
		return values[i]
	}
	return p.known[x]
}

func numberOf(v api.Value) int {
	if v.Kind == api.SortText {
		return len(v.S)
	}
	return v.N
}

// fulfilled reports whether values fulfil the guard, by the definition.
func (p places) fulfilled(values []api.Value) bool {
	if !allFit(p.d.Fields, values, false) {
		return false
	}
	for _, b := range p.d.Guard.Diffs {
		x, y := p.value(b.X, values), p.value(b.Y, values)
		if x.Kind == 0 || y.Kind == 0 || numberOf(x)-numberOf(y) > b.C {
			return false
		}
	}
	for _, pair := range p.d.Guard.Equals {
		x, y := p.value(pair[0], values), p.value(pair[1], values)
		if x.Kind == 0 || y.Kind == 0 || x.S != y.S {
			return false
		}
	}
	return true
}

// bounds returns what Bounds has to return.
func (p places) bounds() []api.Diff {
	var l []api.Diff
	for i, f := range p.d.Fields {
		l = append(l, api.Diff{X: p.d.First + i, Y: -1, C: f.Sort.Hi}, api.Diff{X: -1, Y: p.d.First + i, C: -f.Sort.Lo})
	}
	l = append(l, p.d.Guard.Diffs...)
	for _, pair := range p.d.Guard.Equals {
		l = append(l, api.Diff{X: pair[0], Y: pair[1]}, api.Diff{X: pair[1], Y: pair[0]})
	}
	return l
}

// complete reports whether all variables of other declarations in the guard are known.
func (p places) complete() bool {
	for _, b := range p.bounds() {
		for _, x := range []int{b.X, b.Y} {
			if _, own := p.own(x); !own && p.value(x, nil).Kind == 0 {
				return false
			}
		}
	}
	return true
}

// leastNumbers raises the numbers of the fields as long as a bound is not kept. As a bound can only be kept by raising the second number, no number is raised more than it has to be.
func (p places) leastNumbers() ([]int, bool) {
	values := make([]api.Value, len(p.d.Fields))
	for i, f := range p.d.Fields {
		values[i] = num(f.Sort.Lo)
	}
	for again := true; again; {
		again = false
		for _, b := range p.bounds() {
			excess := numberOf(p.value(b.X, values)) - numberOf(p.value(b.Y, values)) - b.C
			if excess <= 0 {
				continue
			}
			y, own := p.own(b.Y)
			if !own || b.X == b.Y {
				return nil, false
			}
			values[y].N += excess
			if values[y].N > 1000 {
				return nil, false
			}
			again = true
		}
	}
	var l []int
	for _, v := range values {
		l = append(l, v.N)
	}
	return l, true
}

// knownTexts returns the known texts that are equal to a text field, over any number of fields.
func (p places) knownTexts(field int) []string {
	linked := map[int]bool{p.d.First + field: true}
	for range p.d.Fields {
		for _, pair := range p.d.Guard.Equals {
			for i, x := range pair {
				if _, own := p.own(x); linked[x] && own {
					linked[pair[1-i]] = true
				}
			}
		}
	}
	var l []string
	for x := range linked {
		if _, own := p.own(x); !own {
			l = append(l, p.known[x].S)
		}
	}
	return l
}

// filled returns what Fill has to return.
func (p places) filled() ([]api.Value, bool) {
	if !p.complete() {
		return nil, false
	}
	numbers, ok := p.leastNumbers()
	if !ok {
		return nil, false
	}
	var values []api.Value
	for i, f := range p.d.Fields {
		if f.Sort.Kind == api.SortInt {
			values = append(values, num(numbers[i]))
			continue
		}
		text := strings.Repeat("a", numbers[i])
		for k, other := range p.knownTexts(i) {
			if k > 0 && other != text {
				return nil, false
			}
			text = other
		}
		values = append(values, str(text))
	}
	// Two other texts may have to be equal, too.
	for _, pair := range p.d.Guard.Equals {
		if p.value(pair[0], values).S != p.value(pair[1], values).S {
			return nil, false
		}
	}
	return values, true
}

// question has arguments for all functions but Decls.
type question struct {
	decls         []api.Decl
	label         int
	values, known []api.Value
}

// answers has the results of all functions but Decls.
type answers struct {
	bounds         []api.Diff
	filled, learnt []api.Value
	check, fill    bool
	errors         [2]api.Errno // of Bounds and Learn
}

func answersOf(q question) answers {
	var s answers
	s.bounds, s.errors[0] = guard.Bounds(q.decls, q.label)
	s.check = guard.Check(q.decls, q.label, q.values, q.known)
	s.filled, s.fill = guard.Fill(q.decls, q.label, q.known)
	s.learnt, s.errors[1] = guard.Learn(q.decls, q.label, q.values, q.known)
	return s
}

func (s answers) equal(t answers) bool {
	return slices.Equal(s.bounds, t.bounds) && slices.Equal(s.filled, t.filled) && slices.Equal(s.learnt, t.learnt) && s.check == t.check && s.fill == t.fill && s.errors == t.errors
}

// expected returns the right answers.
func expected(q question) answers {
	if !valid(q.decls) || !between(0, q.label, len(q.decls)-1) {
		return answers{errors: [2]api.Errno{api.ErrArg, api.ErrArg}}
	}
	p := places{q.decls[q.label], q.known}
	s := answers{bounds: p.bounds()}
	if !allFit(fieldsOf(q.decls), q.known, true) {
		s.errors[1] = api.ErrArg
		return s
	}
	s.check = p.fulfilled(q.values)
	s.filled, s.fill = p.filled()
	if !allFit(p.d.Fields, q.values, false) {
		s.errors[1] = api.ErrType
		return s
	}
	for x, v := range q.known {
		if i, own := p.own(x); own {
			v = q.values[i]
		}
		s.learnt = append(s.learnt, v)
	}
	return s
}

// check compares all answers with the right ones, and returns them.
func check(t *testing.T, q question) answers {
	t.Helper()
	got, want := answersOf(q), expected(q)
	if !got.equal(want) {
		t.Fatalf("%.2000s: got %+v, want %+v", fmt.Sprintf("%+v", q), got, want)
	}
	return got
}
