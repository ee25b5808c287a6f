package value_test

import (
	"slices"
	"strings"
	"testing"

	"farandole/api"
	"farandole/value"
)

// parsesList tests ParseList by its definition, and that what it accepts is the notation of the list.
func parsesList(t *testing.T, s string) {
	t.Helper()
	l, e := value.ParseList(s)
	want, wantError := parseList(s)
	if !slices.Equal(l, want) || e != wantError {
		t.Fatalf("%q: %+v %s, want %+v %s", s, l, e.Name(), want, wantError.Name())
	}
	if e == api.OK && value.ShowList(l) != s {
		t.Fatalf("%q: %+v, shown as %q", s, l, value.ShowList(l))
	}
}

// P15.1: Same compares lists value by value.
func TestSame(t *testing.T) {
	for _, a := range corners() {
		if !value.Same([]api.Value{a}, []api.Value{a}) || !value.Same([]api.Value{num(1), a}, []api.Value{num(1), a}) {
			t.Errorf("%+v", a)
		}
		for _, b := range []api.Value{{Kind: a.Kind + 1, N: a.N, S: a.S}, {Kind: a.Kind, N: a.N + 1, S: a.S}, {Kind: a.Kind, N: a.N, S: a.S + "a"}, {Kind: a.Kind, N: a.N, S: "\x01" + a.S[min(1, len(a.S)):]}} {
			if value.Same([]api.Value{a}, []api.Value{b}) || value.Same([]api.Value{b, a}, []api.Value{b, b}) || value.Same([]api.Value{a, a}, []api.Value{b, a}) {
				t.Errorf("%+v %+v", a, b)
			}
		}
	}
	lists := [][]api.Value{{}, {{}}, {num(1)}, {num(2)}, {num(1), num(2)}, {num(2), num(1)}, {num(1), num(1)}, {text("")}, {text(""), text("")}, {text("ab")}, {text("a"), text("b")}, make([]api.Value, 100), make([]api.Value, 101)}
	for i, a := range lists {
		for k, b := range lists {
			if value.Same(a, b) != (i == k) || value.Same(a, slices.Clone(b)) != (i == k) {
				t.Errorf("%+v %+v", a, b)
			}
		}
	}
	if !value.Same(nil, nil) || !value.Same(nil, []api.Value{}) || value.Same(nil, []api.Value{{}}) {
		t.Error("nil and empty lists are equal")
	}
}

// P15.6: lists fit exactly if they have the same length and fit element by element.
func TestFitsAll(t *testing.T) {
	m := newMaker(8)
	count := 0
	for range 30000 {
		l := m.list()
		fields := m.fields(l)
		if m.some(20) && len(l) > 0 {
			l = l[1:]
		}
		want := len(l) == len(fields)
		for i := range min(len(l), len(fields)) {
			want = want && value.Fits(fields[i].Sort, l[i])
		}
		if value.FitsAll(fields, l) != want || allFit(fields, l) != want {
			t.Fatalf("%+v %+v: want %v", fields, l, want)
		}
		if want && len(l) > 0 {
			count++
			testOneWrong(t, fields, l)
		}
	}
	if count < 1000 {
		t.Errorf("only %d lists fit", count)
	}
	if !value.FitsAll(nil, nil) || !value.FitsAll(nil, []api.Value{}) || !value.FitsAll([]api.Field{}, nil) || value.FitsAll(nil, []api.Value{{}}) || value.FitsAll([]api.Field{{}}, nil) || value.FitsAll([]api.Field{{}}, []api.Value{{}}) {
		t.Error("nil and empty lists are equal")
	}
}

// testOneWrong tests that lists that fit do so no longer when one element is changed.
func testOneWrong(t *testing.T, fields []api.Field, l []api.Value) {
	t.Helper()
	for i, f := range fields {
		other := slices.Clone(l)
		for _, v := range []api.Value{{}, {Kind: api.SortInt, N: f.Sort.Hi + 1}, {Kind: api.SortInt, N: f.Sort.Lo - 1}, text(strings.Repeat("a", max(0, f.Sort.Hi+1))), {Kind: l[i].Kind, N: l[i].N, S: l[i].S + "\n"}} {
			if other[i] = v; value.FitsAll(fields, other) {
				t.Fatalf("%+v %+v", fields, other)
			}
		}
		if value.FitsAll(fields, slices.Delete(slices.Clone(l), i, i+1)) || value.FitsAll(fields, slices.Insert(slices.Clone(l), i, l[i])) {
			t.Fatalf("%+v fits a list of another length", fields)
		}
	}
}

// P15.1: the least value of each field; ErrArg if one of the sorts is not valid.
func TestLeastAll(t *testing.T) {
	m := newMaker(9)
	for range 3000 {
		var fields []api.Field
		for range m.length() {
			fields = append(fields, api.Field{Name: m.printable(3), Sort: m.sort()})
		}
		l, e := value.LeastAll(fields)
		if e != api.OK || len(l) != len(fields) || !value.FitsAll(fields, l) {
			t.Fatalf("%+v: %+v %s", fields, l, e.Name())
		}
		for i, f := range fields {
			if want, _ := least(f.Sort); l[i] != want {
				t.Fatalf("%+v: %+v, want %+v", f, l[i], want)
			}
			bad := slices.Clone(fields)
			bad[i].Sort = api.Sort{Kind: m.Intn(4), Lo: 1, Hi: 0}
			if l, e := value.LeastAll(bad); len(l) > 0 || e != api.ErrArg {
				t.Fatalf("%+v: %+v %s", bad, l, e.Name())
			}
		}
	}
	for _, s := range sorts() {
		l, e := value.LeastAll([]api.Field{{Sort: s}})
		want, wantError := least(s)
		if e != wantError || e == api.OK && !slices.Equal(l, []api.Value{want}) || e != api.OK && len(l) > 0 {
			t.Errorf("%+v: %+v %s", s, l, e.Name())
		}
	}
	if l, e := value.LeastAll(nil); len(l) > 0 || e != api.OK {
		t.Error(l, e)
	}
}

// P15.1: ShowList uses Show for each value.
func TestShowList(t *testing.T) {
	for want, l := range map[string][]api.Value{"()": nil, "(0)": {num(0)}, "(?)": {{}}, "(-7, ?, 1000)": {num(-7), num(1001), num(1000)}, `("")`: {text("")}, `("a, b", ")", "(")`: {text("a, b"), text(")"), text("(")}, `(1, "\"", "\\")`: {num(1), text(`"`), text(`\`)}, "(" + strings.Repeat("1, ", 29) + "1)": slices.Repeat([]api.Value{num(1)}, 30)} {
		if got := value.ShowList(l); got != want {
			t.Errorf("%+v: %q, want %q", l, got, want)
		}
	}
	if s := value.ShowList([]api.Value{}); s != "()" {
		t.Error(s)
	}
	m := newMaker(10)
	for range 10000 {
		var l []api.Value
		for range m.length() {
			l = append(l, m.value())
		}
		if got, want := value.ShowList(l), showList(l); got != want {
			t.Fatalf("%+v: %q, want %q", l, got, want)
		}
	}
}

// P15.1: ErrSyntax if a string is no notation of a list, or one of its values is none or out of range.
func TestWrongLists(t *testing.T) {
	long := `"` + strings.Repeat("a", 41) + `"`
	for _, s := range []string{"", "(", ")", ")(", "1", `"a"`, "?", "(?)", "( )", " ()", "() ", "()()", "(())", "((1))", "(1", "1)", "(1))", "((1)", "(1)x", "(1) ", "(1,2)", "(1 2)", "(1;2)", "(1,  2)", "(1 , 2)", "(1,\n2)", "(1,\t2)", "( 1)", "(1 )", "(1, )", "(1,)", "(, 1)", "(,)", "(, )", "(1, , 2)", "(1, 2", "(1, ", "(1,", "(-)", "(-0)", "(00)", "(01)", "(+1)", "(a)", `(")`, `("a)`, `("a", "b)`, `("a"b)`, `("a""b")`, `(1"a")`, `("a"1)`, `("\n")`, "(\"\n\")", `("é")`, "(1001)", "(-1001)", "(1, 1001)", "(1001, 1)", "(" + long + ")", "(1, " + long + ")", "(" + strings.Repeat("9", 100) + ")", "[1]", "{1}", "1, 2", "(1, 2]"} {
		if l, e := value.ParseList(s); len(l) > 0 || e != api.ErrSyntax {
			t.Errorf("%q: %+v %s", s, l, e.Name())
		}
	}
}

// P15.1: ErrLimit if a list has more than 24 values, behind ErrSyntax, wherever it is wrong.
func TestLongLists(t *testing.T) {
	for n := 1; n < 60; n++ {
		for _, part := range []string{"0", "-1000", `""`, `"a, b"`, `"\""`} {
			items := slices.Repeat([]string{part}, n)
			s := "(" + strings.Join(items, ", ") + ")"
			parsesList(t, s)
			if l, e := value.ParseList(s); n <= 24 && (e != api.OK || len(l) != n) || n > 24 && (e != api.ErrLimit || len(l) > 0) {
				t.Errorf("%d of %s: %+v %s", n, part, l, e.Name())
			}
			for _, wrong := range []string{s[:len(s)-1], s + ")", s + " ", s[1:], strings.Replace(s, ")", ",)", 1), strings.Replace(s, ")", ", )", 1), strings.Replace(s, "(", "( ", 1)} {
				if l, e := value.ParseList(wrong); len(l) > 0 || e != api.ErrSyntax {
					t.Errorf("%q: %+v %s", wrong, l, e.Name())
				}
			}
			for _, i := range []int{0, n / 2, n - 1} {
				for _, wrong := range []string{"", "00", "1001", "-1001", "?", `"\n"`, `"` + strings.Repeat("a", 41) + `"`} {
					items[i] = wrong
					if l, e := value.ParseList("(" + strings.Join(items, ", ") + ")"); len(l) > 0 || e != api.ErrSyntax {
						// A single item that is empty makes an empty list.
						if n > 1 || wrong != "" {
							t.Errorf("%d of %s with %s at %d: %+v %s", n, part, wrong, i, l, e.Name())
						}
					}
					items[i] = part
				}
			}
		}
	}
}

// P15.5: all sequences of up to 5 parts of which the notations of lists consist.
func TestShortLists(t *testing.T) {
	for n := range 6 {
		eachString([]string{"(", ")", ", ", ",", " ", "1", "-", `"`, `\`, "1001"}, n, func(s string) {
			parsesList(t, s)
			parsesList(t, "("+s+")")
		})
	}
	for n := range 8 {
		eachString([]string{"0", ", ", `"a"`, `""`}, n, func(s string) { parsesList(t, "("+s+")") })
	}
}

// P15.5: ParseList returns every list of up to 24 valid values from its notation, and what it accepts is one.
func TestLists(t *testing.T) {
	m := newMaker(11)
	counts := map[api.Errno]int{}
	for range 20000 {
		var l []api.Value
		for range min(24, m.length()) {
			l = append(l, m.valid())
		}
		if got, e := value.ParseList(value.ShowList(l)); !slices.Equal(got, l) || !value.Same(got, l) || e != api.OK {
			t.Fatalf("%+v: %+v %s", l, got, e.Name())
		}
		s := m.notations()
		if m.some(2) {
			s = m.changed(s)
		}
		parsesList(t, s)
		_, e := value.ParseList(s)
		counts[e]++
	}
	if counts[api.OK] < 1000 || counts[api.ErrSyntax] < 1000 || counts[api.ErrLimit] < 100 {
		t.Error(counts)
	}
}
