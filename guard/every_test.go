package guard_test

import (
	"slices"
	"strings"
	"testing"

	"farandole/api"
	"farandole/guard"
)

// textsOf returns all texts of least to most letters a and b.
func textsOf(least, most int) []string {
	var out []string
	longer := []string{""}
	for n := 0; n <= most; n++ {
		if n >= least {
			out = append(out, longer...)
		}
		var next []string
		for _, s := range longer {
			next = append(next, s+"a", s+"b")
		}
		longer = next
	}
	return out
}

// valuesOf returns the values of a sort; the texts are those of the letters a and b.
func valuesOf(s api.Sort) []api.Value {
	var out []api.Value
	if s.Kind == api.SortInt {
		for n := s.Lo; n <= s.Hi; n++ {
			out = append(out, num(n))
		}
		return out
	}
	for _, text := range textsOf(s.Lo, s.Hi) {
		out = append(out, str(text))
	}
	return out
}

// product returns the lists that have a value of each list.
func product(choices [][]api.Value) [][]api.Value {
	out := [][]api.Value{nil}
	for _, choice := range choices {
		var longer [][]api.Value
		for _, l := range out {
			for _, v := range choice {
				longer = append(longer, append(slices.Clone(l), v))
			}
		}
		out = longer
	}
	return out
}

// eachList returns all values of the fields.
func eachList(l []api.Field) [][]api.Value {
	var choices [][]api.Value
	for _, f := range l {
		choices = append(choices, valuesOf(f.Sort))
	}
	return product(choices)
}

func numbersOf(l []api.Value) []int {
	var out []int
	for _, v := range l {
		out = append(out, numberOf(v))
	}
	return out
}

// checkEvery compares Check for all values with the definition, and Fill with all those that fulfil the guard: P14.2 and P14.3. It reports whether there are any.
func checkEvery(t *testing.T, decls []api.Decl, label int, known []api.Value, lists [][]api.Value) bool {
	t.Helper()
	p := places{decls[label], known}
	filled, ok := guard.Fill(decls, label, known)
	if ok && (!p.fulfilled(filled) || !guard.Check(decls, label, filled, known)) {
		t.Fatalf("%+v, %v: %v does not fulfil the guard", decls, known, filled)
	}
	some := false
	for _, values := range lists {
		good := p.fulfilled(values)
		if got := guard.Check(decls, label, values, known); got != good {
			t.Fatalf("%+v, %v: %v fulfils the guard: %v", decls, known, values, got)
		}
		if good && (!ok || slices.Compare(numbersOf(values), numbersOf(filled)) < 0) {
			t.Fatalf("%+v, %v: %v fulfils the guard, filled %v %v", decls, known, values, filled, ok)
		}
		some = some || good
	}
	// A known text of other bytes is in none of the lists.
	if ok && !some && !slices.ContainsFunc(filled, func(v api.Value) bool { return strings.Trim(v.S, "ab") != "" }) {
		t.Fatalf("%+v, %v: filled %v", decls, known, filled)
	}
	if want, good := p.filled(); good != ok || !slices.Equal(want, filled) {
		t.Fatalf("%+v, %v: filled %v %v, want %v %v", decls, known, filled, ok, want, good)
	}
	return ok
}

// P14.2 and P14.3: all guards of one or two bounds over two integers and a known one, for all values.
func TestAllGuardsOfIntegers(t *testing.T) {
	sort := api.Sort{Kind: api.SortInt, Lo: -1, Hi: 1}
	d := []api.Decl{{Name: "a", Fields: []api.Field{{Name: "x", Sort: sort}}}, {Name: "b", First: 1, Fields: []api.Field{{Name: "y", Sort: sort}, {Name: "z", Sort: sort}}}}
	lists := eachList(d[1].Fields)
	var bounds []api.Diff
	for x := -1; x <= 2; x++ {
		for y := -1; y <= 2; y++ {
			for c := -2; c <= 1; c++ {
				bounds = append(bounds, api.Diff{X: x, Y: y, C: c})
			}
		}
	}
	yes, no := 0, 0
	for i, a := range bounds {
		for _, b := range bounds[i:] {
			d[1].Guard.Diffs = []api.Diff{a, b}
			for _, known := range []api.Value{{}, num(-1), num(0), num(1)} {
				if checkEvery(t, d, 1, []api.Value{known, {}, {}}, lists) {
					yes++
				} else {
					no++
				}
			}
		}
	}
	if yes < 1000 || no < 1000 {
		t.Errorf("%d guards can be fulfilled, %d can not", yes, no)
	}
}

// P14.2 and P14.3: all guards of up to two equations of three texts and two known ones, for all values of letters.
func TestAllGuardsOfTexts(t *testing.T) {
	text := func(name string, lo, hi int) api.Field {
		return api.Field{Name: name, Sort: api.Sort{Kind: api.SortText, Lo: lo, Hi: hi}}
	}
	d := []api.Decl{{Name: "a", Fields: []api.Field{text("s", 0, 2), text("u", 0, 2)}}, {Name: "b", First: 2, Fields: []api.Field{text("p", 0, 1), text("q", 1, 2), text("r", 0, 2)}}, {Name: "c", First: 5}}
	lists := eachList(d[1].Fields)
	var pairs [][2]int
	for a := range 5 {
		for b := range 5 {
			pairs = append(pairs, [2]int{a, b})
		}
	}
	kinds := [][]api.Value{{{}, {}}, {str(""), str("a")}, {str("b"), str("b")}, {str("b"), {}}, {str("a"), str("b")}, {str("c"), str("c")}, {str("ab"), str("ba")}}
	yes := 0
	for i, a := range pairs {
		for _, b := range pairs[i:] {
			for _, diffs := range [][]api.Diff{nil, {{X: 2, Y: 4, C: -1}}} {
				d[1].Guard = api.Guard{Diffs: diffs, Equals: [][2]int{b, a}}
				for _, known := range kinds {
					if checkEvery(t, d, 1, append(slices.Clone(known), make([]api.Value, 3)...), lists) {
						yes++
					}
				}
			}
		}
	}
	if yes < 500 {
		t.Errorf("%d guards can be fulfilled", yes)
	}
}

// P14.2 and P14.3: random guards over sorts with a few values, for all values.
func TestFewValues(t *testing.T) {
	m := newMaker(3)
	yes, no := 0, 0
	for range 6000 {
		q := m.question(true)
		lists := eachList(q.decls[q.label].Fields)
		if len(lists) > 1500 {
			continue
		}
		if checkEvery(t, q.decls, q.label, q.known, lists) {
			yes++
		} else {
			no++
		}
	}
	if yes < 1000 || no < 1000 {
		t.Errorf("%d guards can be fulfilled, %d can not", yes, no)
	}
}
