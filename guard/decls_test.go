package guard_test

import (
	"fmt"
	"math"
	"slices"
	"strconv"
	"strings"
	"testing"

	"farandole/api"
	"farandole/guard"
	"farandole/names"
	"farandole/syntax"
)

// messagesOf returns the messages of a source.
func messagesOf(t *testing.T, source string) []syntax.Message {
	t.Helper()
	l, at, e := syntax.Parse("protocol Q(A) { " + source + " }")
	if e != api.OK {
		t.Fatalf("%s: %s at %d", source, e.Name(), at)
	}
	return l[0].Messages
}

// declsOf returns the declarations of a source.
func declsOf(t *testing.T, source string) []api.Decl {
	t.Helper()
	l, name, e := guard.Decls(messagesOf(t, source))
	if e != api.OK {
		t.Fatalf("%s: %s for %q", source, e.Name(), name)
	}
	return l
}

func show(x any) string { return fmt.Sprintf("%+v", x) }

// expectedDecls returns what Decls has to return.
func expectedDecls(l []syntax.Message) ([]api.Decl, string, api.Errno) {
	if names.Check([]syntax.Protocol{{Name: "P", Roles: []string{"A"}, Messages: l}}) != (names.Problem{}) {
		return nil, "", api.ErrArg
	}
	var out []api.Decl
	var order []string
	texts := map[string]bool{}
	for _, m := range l {
		out = append(out, api.Decl{Name: m.Name, Fields: m.Fields, First: len(order)})
		for _, f := range m.Fields {
			order = append(order, m.Name+"."+f.Name)
			texts[m.Name+"."+f.Name] = f.Sort.Kind == api.SortText
		}
	}
	if len(order) > 24 {
		return nil, "", api.ErrLimit
	}
	for i, m := range l {
		nameOf := func(t syntax.Term) string {
			if t.Kind == syntax.Const {
				return ""
			}
			if t.Message == "" {
				return m.Name + "." + t.Field
			}
			return t.Message + "." + t.Field
		}
		g := &out[i].Guard
		for _, a := range m.Where {
			x, y := nameOf(a.Left), nameOf(a.Right)
			i, j := slices.Index(order, x), slices.Index(order, y)
			if a.Left.Kind == syntax.Ref && texts[x] {
				g.Equals = append(g.Equals, [2]int{i, j})
				continue
			}
			c := a.Right.N - a.Left.N
			g.Diffs = append(g.Diffs, map[string][]api.Diff{
				"<=": {{X: i, Y: j, C: c}}, "<": {{X: i, Y: j, C: c - 1}}, "==": {{X: i, Y: j, C: c}, {X: j, Y: i, C: -c}}, ">=": {{X: j, Y: i, C: -c}}, ">": {{X: j, Y: i, C: -c - 1}},
			}[a.Op]...)
		}
		for _, d := range g.Diffs {
			if d.C < -20000 || d.C > 20000 {
				return nil, m.Name, api.ErrRange
			}
		}
	}
	return out, "", api.OK
}

// checkDecls compares what Decls returns with what it has to return. Valid declarations are tested with P14.4.
func checkDecls(t *testing.T, l []syntax.Message) ([]api.Decl, api.Errno) {
	t.Helper()
	got, name, e := guard.Decls(l)
	want, wantName, wantError := expectedDecls(l)
	if show(got) != show(want) || name != wantName || e != wantError {
		t.Fatalf("%.3000s: got %+v %q %s, want %+v %q %s", show(l), got, name, e.Name(), want, wantName, wantError.Name())
	}
	if e == api.OK && !valid(got) {
		t.Fatalf("%+v: not valid: %+v", l, got)
	}
	return got, e
}

// P14.1: what each mark makes of the terms x + a and y + b.
func TestMarks(t *testing.T) {
	for mark, want := range map[string][]api.Diff{
		"<=": {{X: 1, Y: 0, C: 3 - 7}},
		"<":  {{X: 1, Y: 0, C: 3 - 7 - 1}},
		">=": {{X: 0, Y: 1, C: 7 - 3}},
		">":  {{X: 0, Y: 1, C: 7 - 3 - 1}},
		"==": {{X: 1, Y: 0, C: 3 - 7}, {X: 0, Y: 1, C: 7 - 3}},
	} {
		for _, atom := range []string{"x + 7 " + mark + " a.x + 3", "b.x + 7 " + mark + " a.x + 3"} {
			d := declsOf(t, "message a(x: int 0..9); message b(x: int 0..9) where "+atom+";")
			if got := d[1].Guard; !slices.Equal(got.Diffs, want) || len(got.Equals) > 0 {
				t.Errorf("%s: %v, want %v", atom, got, want)
			}
		}
	}
}

// P14.1: terms are constants, numbers of integers, or lengths of texts, of fields of this message or of any other one, also of one behind it.
func TestTerms(t *testing.T) {
	d := declsOf(t, "message a(s: text 0..3, x: int 0..9) where 5 <= 2 and len(s) - 1 <= c.y and len(s) == len(c.u) + 4 and s == c.u and s == a.s; message b(); message c(y: int 0..1, u: text 0..3) where -3 > y and a.x < y and u == a.s and c.u == u;")
	want := []api.Guard{
		{Diffs: []api.Diff{{X: -1, Y: -1, C: -3}, {X: 0, Y: 2, C: 1}, {X: 0, Y: 3, C: 4}, {X: 3, Y: 0, C: -4}}, Equals: [][2]int{{0, 3}, {0, 0}}},
		{},
		{Diffs: []api.Diff{{X: 2, Y: -1, C: -4}, {X: 1, Y: 2, C: -1}}, Equals: [][2]int{{3, 0}, {3, 3}}},
	}
	for i, first := range []int{0, 2, 2} {
		if got := d[i]; show(got.Guard) != show(want[i]) || got.First != first || got.Name != []string{"a", "b", "c"}[i] {
			t.Errorf("%+v, want %+v", got, want[i])
		}
	}
	if want := []api.Field{{Name: "s", Sort: api.Sort{Kind: api.SortText, Hi: 3}}, {Name: "x", Sort: api.Sort{Kind: api.SortInt, Hi: 9}}}; !slices.Equal(d[0].Fields, want) {
		t.Errorf("%v, want %v", d[0].Fields, want)
	}
	if d, name, e := guard.Decls(nil); len(d) > 0 || name != "" || e != api.OK {
		t.Errorf("no messages: %v %q %s", d, name, e.Name())
	}
}

// P14.1: C is from -20000 to 20000, for each Diff of each mark; the first message with another one counts.
func TestRangeOfC(t *testing.T) {
	for mark, limits := range map[string][2]int{"<": {-19999, 20001}, "<=": {-20000, 20000}, "==": {-20000, 20000}, ">=": {-20000, 20000}, ">": {-20001, 19999}} {
		for i, limit := range limits {
			for c := limit - 2; c <= limit+2; c++ {
				want, name := api.OK, "y"
				if i == 0 && c < limit || i == 1 && c > limit {
					want, name = api.ErrRange, "x"
				}
				source := "message ok(); message x(x: int 0..1) where 1 < 2 and x " + mark + " " + strconv.Itoa(c) + "; message y(x: int 0..1) where x < 90000;"
				l := messagesOf(t, source)
				if _, e := checkDecls(t, l[:2]); e != want {
					t.Errorf("%s %d: %s, want %s", mark, c, e.Name(), want.Name())
				}
				if d, got, e := guard.Decls(l); len(d) > 0 || got != name || e != api.ErrRange {
					t.Errorf("%s: %v %q %s", source, d, got, e.Name())
				}
			}
		}
	}
}

// fieldsNamed returns fields of a sort with one value.
func fieldsNamed(l ...string) []api.Field {
	var out []api.Field
	for _, name := range l {
		out = append(out, api.Field{Name: name, Sort: api.Sort{Kind: api.SortInt, Lo: 1, Hi: 1}})
	}
	return out
}

// P14.1: at most 24 fields; ErrLimit is behind ErrArg, and ahead of ErrRange.
func TestFieldsOfAllMessages(t *testing.T) {
	tooFar := []syntax.Atom{{Left: syntax.Term{Kind: syntax.Const}, Op: "<", Right: syntax.Term{Kind: syntax.Const, N: 90000}}}
	unknown := []syntax.Atom{{Left: syntax.Term{Kind: syntax.Ref, Field: "z"}, Op: "<", Right: syntax.Term{Kind: syntax.Const}}}
	var l []syntax.Message
	for i := range 6 {
		l = append(l, syntax.Message{Name: "m" + strconv.Itoa(i), Fields: fieldsNamed("a", "b", "c", "d")})
	}
	for i := range 34 {
		l = append(l, syntax.Message{Name: "n" + strconv.Itoa(i)})
	}
	for _, c := range []struct {
		change func(m *syntax.Message)
		e      api.Errno
		name   string
	}{
		{func(m *syntax.Message) {}, api.OK, ""},
		{func(m *syntax.Message) { m.Where = tooFar }, api.ErrRange, "n33"},
		{func(m *syntax.Message) { m.Fields = fieldsNamed("a") }, api.ErrLimit, ""},
		{func(m *syntax.Message) { m.Fields, m.Where = fieldsNamed("a"), tooFar }, api.ErrLimit, ""},
		{func(m *syntax.Message) { m.Where = unknown }, api.ErrArg, ""},
		{func(m *syntax.Message) { m.Fields, m.Where = fieldsNamed("a"), unknown }, api.ErrArg, ""},
		{func(m *syntax.Message) { m.Name = "n32" }, api.ErrArg, ""},
	} {
		changed := slices.Clone(l)
		c.change(&changed[39])
		_, name, e := guard.Decls(changed)
		if checkDecls(t, changed); e != c.e || name != c.name {
			t.Errorf("%s: %q %s, want %q %s", show(changed[39]), name, e.Name(), c.name, c.e.Name())
		}
	}
	if _, e := checkDecls(t, append(slices.Clone(l), syntax.Message{Name: "more"})); e != api.ErrArg {
		t.Errorf("41 messages: %s", e.Name())
	}
}

// P14.1: ErrArg for messages that are not valid, or have a problem of names.
func TestProblemsOfMessages(t *testing.T) {
	for _, source := range []string{
		"message a(); message a();",
		"message a(x: int 0..1, x: int 0..1);",
		"message a(x: int 1..0);",
		"message a(x: int 0..1001);",
		"message a(x: text 0..41);",
		"message a(x: int 0..1) where y < 3;",
		"message a(x: int 0..1) where b.x < 3;",
		"message a(x: int 0..1) where len(x) < 3;",
		"message a(x: text 0..1) where x < 3;",
		"message a(x: text 0..1, y: text 0..1) where x < y;",
		"message a(x: text 0..1, y: text 0..1) where x == y + 1;",
		"message a(x: text 0..1, y: int 0..1) where x == y;",
		"message a(x: text 0..1, y: text 0..1) where x == len(y);",
	} {
		if d, name, e := guard.Decls(messagesOf(t, source)); len(d) > 0 || name != "" || e != api.ErrArg {
			t.Errorf("%s: %v %q %s", source, d, name, e.Name())
		}
	}
	one := syntax.Term{Kind: syntax.Const, N: 1}
	for _, m := range []syntax.Message{
		{}, {Name: "a b"}, {Name: "message"}, {Name: strings.Repeat("a", 17)},
		{Name: "a", Fields: fieldsNamed("a.b")}, {Name: "a", Fields: fieldsNamed("")}, {Name: "a", Fields: fieldsNamed("a", "b", "c", "d", "e")},
		{Name: "a", Fields: []api.Field{{Name: "x"}}}, {Name: "a", Fields: []api.Field{{Name: "x", Sort: api.Sort{Kind: 3}}}},
		{Name: "a", Where: []syntax.Atom{{}}}, {Name: "a", Where: []syntax.Atom{{Left: one, Op: "!=", Right: one}}}, {Name: "a", Where: []syntax.Atom{{Left: one, Right: one}}},
		{Name: "a", Where: []syntax.Atom{{Left: syntax.Term{Kind: syntax.Const, N: math.MinInt}, Op: "<", Right: syntax.Term{Kind: syntax.Const, N: math.MaxInt}}}},
		{Name: "a", Where: slices.Repeat([]syntax.Atom{{Left: one, Op: "<", Right: one}}, 7)},
	} {
		if d, name, e := guard.Decls([]syntax.Message{{Name: "ok"}, m}); len(d) > 0 || name != "" || e != api.ErrArg {
			t.Errorf("%+v: %v %q %s", m, d, name, e.Name())
		}
	}
	// A canonical source of the protocol with more than 8000 bytes: long names of messages in all atoms.
	long := strings.Repeat("abcdefghijklmnop.", 2) + "abcdefghijklmnop"
	l := []syntax.Message{{Name: long, Fields: fieldsNamed("abcdefghijklmnop")}}
	field := syntax.Term{Kind: syntax.Ref, Message: long, Field: "abcdefghijklmnop"}
	for i := range 39 {
		l = append(l, syntax.Message{Name: "n" + strconv.Itoa(i), Where: slices.Repeat([]syntax.Atom{{Left: field, Op: "==", Right: field}}, 6)})
	}
	found := map[api.Errno]int{}
	for n := range l {
		_, e := checkDecls(t, l[:n])
		found[e]++
	}
	if found[api.OK] < 5 || found[api.ErrArg] < 5 || len(found) != 2 {
		t.Errorf("%v", found)
	}
}

// P14.1 and P14.4: the declarations of random messages, with and without changes.
func TestRandomMessages(t *testing.T) {
	m := newMaker(1)
	found := map[api.Errno]int{}
	for range 6000 {
		l := m.messages()
		_, e := checkDecls(t, l)
		found[e]++
		if len(l) > 0 {
			m.change(l)
			_, e = checkDecls(t, l)
			found[e]++
		}
	}
	for _, e := range []api.Errno{api.OK, api.ErrArg, api.ErrRange, api.ErrLimit} {
		if found[e] < 5 {
			t.Errorf("only %d lists of messages with %s", found[e], e.Name())
		}
	}
}

// change changes something in one of the messages.
func (m maker) change(l []syntax.Message) {
	x := &l[m.Intn(len(l))]
	terms := []*syntax.Term{{}}
	for i := range x.Where {
		terms = append(terms, &x.Where[i].Left, &x.Where[i].Right)
	}
	term := pick(m, terms...)
	fields := append(x.Fields, api.Field{})
	field := &fields[m.Intn(len(fields))]
	switch m.Intn(9) {
	case 0:
		x.Name = pick(m, "m", "n", "", "p.q", "q")
	case 1:
		term.Kind = m.Intn(5)
	case 2:
		term.N += pick(m, 1, -1, 20000, -20000, 999999, math.MaxInt)
	case 3:
		term.Message = pick(m, "m", "n", "q", "")
	case 4:
		term.Field = pick(m, "x", "y", "q", "")
	case 5:
		field.Name = pick(m, "x", "y", "z", "x.y", "")
	case 6:
		field.Sort.Kind = m.Intn(4)
	case 7:
		field.Sort.Lo += pick(m, 1, -1, 1000, -1000, 40)
	case 8:
		x.Fields = x.Fields[:len(x.Fields)/2]
	}
}

// holdsFor tells whether an atom of a message holds for the values of all variables, by what it says.
func holdsFor(a syntax.Atom, valueOf func(t syntax.Term) api.Value) bool {
	x, y := valueOf(a.Left), valueOf(a.Right)
	if a.Left.Kind == syntax.Ref && x.Kind == api.SortText {
		return x.S == y.S
	}
	n, k := numberOf(x)+a.Left.N, numberOf(y)+a.Right.N
	return map[string]bool{"<": n < k, "<=": n <= k, "==": n == k, ">=": n >= k, ">": n > k}[a.Op]
}

// P14.1: values fulfil the guard exactly if all atoms hold.
func TestMeaningOfAtoms(t *testing.T) {
	m := newMaker(2)
	good, bad := 0, 0
	for range 6000 {
		l := m.messages()
		decls, _, e := guard.Decls(l)
		if e != api.OK || len(l) == 0 {
			continue
		}
		label := m.Intn(len(l))
		all := m.values(fieldsOf(decls))
		values := m.values(l[label].Fields)
		if best, ok := guard.Fill(decls, label, all); ok && m.Intn(3) > 0 {
			values = best
		}
		want := true
		for _, a := range l[label].Where {
			want = want && holdsFor(a, func(t syntax.Term) api.Value {
				if t.Kind == syntax.Const {
					return num(0)
				}
				if t.Message == "" {
					t.Message = l[label].Name
				}
				for i, d := range decls {
					for j, f := range d.Fields {
						if d.Name == t.Message && f.Name == t.Field && i == label {
							return values[j]
						}
						if d.Name == t.Message && f.Name == t.Field {
							return all[d.First+j]
						}
					}
				}
				panic("no such field")
			})
		}
		if got := guard.Check(decls, label, values, all); got != want {
			t.Fatalf("%s\n%d of %s: %v %v is %v", show(l), label, show(decls), values, all, got)
		}
		if want && len(l[label].Where) > 0 {
			good++
		} else if !want {
			bad++
		}
	}
	if good < 500 || bad < 500 {
		t.Errorf("%d guards hold, %d do not", good, bad)
	}
}
