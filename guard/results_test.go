package guard_test

import (
	"slices"
	"strconv"
	"strings"
	"testing"

	"farandole/api"
	"farandole/guard"
)

// filledIs tests what Fill returns.
func filledIs(t *testing.T, decls []api.Decl, label int, known []api.Value, ok bool, want ...api.Value) {
	t.Helper()
	check(t, question{decls: decls, label: label, known: known, values: want})
	if got, some := guard.Fill(decls, label, known); !slices.Equal(got, want) || some != ok {
		t.Errorf("%+v with %v: %v %v, want %v %v", decls, known, got, some, want, ok)
	}
}

// P14.1: with y > a.x and z >= y, and x = 3 known, Fill returns 4 and 4.
func TestExample(t *testing.T) {
	d := declsOf(t, "message a(x: int 0..9); message b(y: int 0..9, z: int 0..9) where y > a.x and z >= y;")
	known := []api.Value{num(3), {}, {}}
	filledIs(t, d, 1, known, true, num(4), num(4))
	for y := -1; y <= 10; y++ {
		for z := -1; z <= 10; z++ {
			q := question{d, 1, []api.Value{num(y), num(z)}, known}
			if s := check(t, q); s.check != (4 <= y && y <= z && z <= 9) {
				t.Errorf("%d and %d: %v", y, z, s.check)
			}
		}
	}
	filledIs(t, d, 1, []api.Value{num(8), num(1), num(0)}, true, num(9), num(9))
	filledIs(t, d, 1, []api.Value{num(9), {}, {}}, false)
	filledIs(t, d, 1, []api.Value{{}, num(9), num(9)}, false)
	filledIs(t, d, 0, make([]api.Value, 3), true, num(0))
	want := []api.Diff{{X: 1, Y: -1, C: 9}, {X: -1, Y: 1}, {X: 2, Y: -1, C: 9}, {X: -1, Y: 2}, {X: 0, Y: 1, C: -1}, {X: 1, Y: 2}}
	if got, e := guard.Bounds(d, 1); !slices.Equal(got, want) || e != api.OK {
		t.Errorf("Bounds: %v %s, want %v", got, e.Name(), want)
	}
}

// P14.1: texts that are equal to a known one over other fields of the message; all others are letters.
func TestTexts(t *testing.T) {
	d := declsOf(t, "message a(s: text 0..5, u: text 0..5); message b(p: text 0..5, q: text 1..5, r: text 2..4, v: text 3..9) where r == q and q == p and p == a.s;")
	filledIs(t, d, 1, []api.Value{str("x~ "), {}, {}, {}, {}, {}}, true, str("x~ "), str("x~ "), str("x~ "), str("aaa"))
	filledIs(t, d, 1, []api.Value{str("x"), {}, {}, {}, {}, {}}, false)
	filledIs(t, d, 1, []api.Value{str("xxxxx"), {}, {}, {}, {}, {}}, false)
	filledIs(t, d, 1, []api.Value{{}, str("xx"), {}, {}, {}, {}}, false)
	// What is known of the fields themselves does not matter.
	filledIs(t, d, 1, []api.Value{str("xy"), {}, str("q"), str("q"), {}, str("abcd")}, true, str("xy"), str("xy"), str("xy"), str("aaa"))
	// Without a known text, they have letters, as many as the greatest least number.
	d = declsOf(t, "message b(p: text 0..5, q: text 1..5, r: text 2..4, v: text 0..9) where r == q and q == p and len(v) > len(p);")
	filledIs(t, d, 0, make([]api.Value, 4), true, str("aa"), str("aa"), str("aa"), str("aaa"))
	// Two known texts.
	d = declsOf(t, "message a(s: text 0..5, u: text 0..5); message b(p: text 0..5, q: text 0..5) where p == a.s and q == a.u and q == p;")
	filledIs(t, d, 1, []api.Value{str("xy"), str("xy"), {}, {}}, true, str("xy"), str("xy"))
	filledIs(t, d, 1, []api.Value{str("xy"), str("xz"), {}, {}}, false)
	filledIs(t, d, 1, []api.Value{str("xy"), str("xyz"), {}, {}}, false)
	filledIs(t, d, 1, []api.Value{str(""), str(""), {}, {}}, true, str(""), str(""))
	// Equals of other texts alone, of which one is equal to a field.
	d = declsOf(t, "message a(s: text 0..5, u: text 0..5); message b(p: text 0..5) where a.s == a.u and p == a.u;")
	filledIs(t, d, 1, []api.Value{str("x"), str("x"), {}}, true, str("x"))
	filledIs(t, d, 1, []api.Value{str("x"), str("y"), {}}, false)
	filledIs(t, d, 1, []api.Value{{}, str("y"), {}}, false)
	filledIs(t, d, 1, []api.Value{str("y"), {}, {}}, false)
}

// P14.1: variables that are not known, in bounds that hold whatever they are.
func TestUnknownVariables(t *testing.T) {
	for _, atom := range []string{"a.x == a.x", "a.x < 1000", "len(a.s) >= 0", "a.s == a.s", "a.s == u", "1 < 2 and a.x > -9"} {
		d := declsOf(t, "message a(x: int 0..9, s: text 0..9); message b(u: text 0..9) where "+atom+";")
		filledIs(t, d, 1, []api.Value{{}, {}, str("")}, false)
		filledIs(t, d, 1, []api.Value{num(0), str(""), {}}, true, str(""))
		if guard.Check(d, 1, []api.Value{str("")}, make([]api.Value, 3)) {
			t.Errorf("%s holds", atom)
		}
	}
}

// P14.1: messages without fields, whose guards have constants and other variables.
func TestNoFields(t *testing.T) {
	d := declsOf(t, "message a(x: int 0..9); message b() where a.x > 3; message c() where 2 <= 1; message d();")
	for x := range 10 {
		known := []api.Value{num(x)}
		for label, want := range map[int]bool{1: x > 3, 2: false, 3: true} {
			s := check(t, question{decls: d, label: label, known: known})
			if s.fill != want || s.check != want || s.errors[1] != api.OK || !slices.Equal(s.learnt, known) {
				t.Errorf("x = %d, %d: %+v", x, label, s)
			}
		}
	}
	check(t, question{})
	check(t, question{label: -1})
	if s := check(t, question{decls: []api.Decl{{Name: "a"}}}); !s.fill || !s.check || s.errors != [2]api.Errno{} {
		t.Errorf("%+v", s)
	}
}

// P14.1: the greatest and least numbers of sorts, guards and values.
func TestExtremeNumbers(t *testing.T) {
	for _, lo := range []int{-1000, 0, 1000} {
		for _, known := range []int{-1000, 0, 1000} {
			for _, c := range []int{-20000, -2001, -2000, -1999, -1000, 0, 1, 1999, 2000, 2001, 20000} {
				for _, own := range []bool{true, false} {
					x, y := -1, 1
					if !own {
						x = 0
					}
					d := []api.Decl{
						{Name: "a", Fields: []api.Field{{Name: "x", Sort: api.Sort{Kind: api.SortInt, Lo: -1000, Hi: 1000}}}},
						{Name: "b", First: 1, Fields: []api.Field{{Name: "y", Sort: api.Sort{Kind: api.SortInt, Lo: lo, Hi: 1000}}, {Name: "s", Sort: api.Sort{Kind: api.SortText, Hi: 40}}}},
					}
					for _, b := range []api.Diff{{X: x, Y: y, C: c}, {X: y, Y: x, C: c}, {X: 2, Y: y, C: c}, {X: y, Y: 2, C: c}, {X: x, Y: 2, C: c}, {X: 2, Y: x, C: c}, {X: x, Y: x, C: c}, {X: y, Y: y, C: c}} {
						d[1].Guard.Diffs = []api.Diff{b}
						q := question{decls: d, label: 1, known: []api.Value{num(known), {}, {}}}
						q.values, _ = guard.Fill(d, 1, q.known)
						check(t, q)
						q.values = []api.Value{num(1000), str(strings.Repeat("~", 40))}
						check(t, q)
						q.values = []api.Value{num(lo), str("")}
						check(t, q)
					}
				}
			}
		}
	}
}

// broken returns declarations that are not valid, but almost.
func broken(d []api.Decl) map[string][]api.Decl {
	out := map[string][]api.Decl{}
	change := func(what string, change func(l []api.Decl)) {
		l := slices.Clone(d)
		for i := range l {
			l[i].Fields = slices.Clone(l[i].Fields)
			l[i].Guard.Diffs = slices.Clone(l[i].Guard.Diffs)
			l[i].Guard.Equals = slices.Clone(l[i].Guard.Equals)
		}
		change(l)
		out[what] = l
	}
	for _, name := range []string{"", "a b", "a..b", ".a", "a.", "text", strings.Repeat("a", 17), "1", d[1].Name} {
		change("name "+name, func(l []api.Decl) { l[0].Name = name })
	}
	change("long path", func(l []api.Decl) { l[0].Name = strings.Repeat("abcdefghijklmnop.", 3) })
	for _, name := range []string{"", "a b", "a.b", "text", strings.Repeat("a", 17), d[0].Fields[1].Name} {
		change("field "+name, func(l []api.Decl) { l[0].Fields[0].Name = name })
	}
	for _, s := range []api.Sort{{}, {Kind: 3}, {Kind: -1}, {Kind: 1, Lo: 1}, {Kind: 2, Lo: 1}, {Kind: 1, Lo: -1001}, {Kind: 1, Hi: 1001}, {Kind: 2, Lo: -1}, {Kind: 2, Hi: 41}, {Kind: 1, Lo: 1001, Hi: 1001}, {Kind: 1, Lo: -1001, Hi: -1001}} {
		change("sort "+show(s), func(l []api.Decl) { l[0].Fields[0].Sort = s })
	}
	for i := range d {
		change("First less", func(l []api.Decl) { l[i].First-- })
		change("First more", func(l []api.Decl) { l[i].First++ })
	}
	last := len(fieldsOf(d))
	for _, b := range []api.Diff{{X: -2, Y: 0}, {X: 0, Y: -2}, {X: last, Y: 0}, {X: 0, Y: last}, {X: last + 1, Y: 0}, {X: 0, Y: 1<<63 - 1}, {X: 0, Y: 0, C: 20001}, {X: -1, Y: -1, C: -20001}} {
		for i := range d {
			change("Diff "+show(b)+strconv.Itoa(i), func(l []api.Decl) { l[i].Guard.Diffs = append(l[i].Guard.Diffs, b) })
		}
	}
	texts := slices.IndexFunc(fieldsOf(d), func(f api.Field) bool { return f.Sort.Kind == api.SortText })
	numbers := slices.IndexFunc(fieldsOf(d), func(f api.Field) bool { return f.Sort.Kind == api.SortInt })
	for _, x := range []int{-2, -1, numbers, last, last + 1} {
		for i := range d {
			change("Equals "+strconv.Itoa(x)+" "+strconv.Itoa(i), func(l []api.Decl) { l[i].Guard.Equals = append(l[i].Guard.Equals, [2]int{x, texts}) })
			change("Equals behind "+strconv.Itoa(x)+" "+strconv.Itoa(i), func(l []api.Decl) { l[i].Guard.Equals = append(l[i].Guard.Equals, [2]int{texts, x}) })
		}
	}
	for i := range d {
		change("21 Diffs "+strconv.Itoa(i), func(l []api.Decl) { l[i].Guard.Diffs = make([]api.Diff, 21) })
		change("21 Equals "+strconv.Itoa(i), func(l []api.Decl) {
			l[i].Guard.Equals = slices.Repeat([][2]int{{texts, texts}}, 21)
		})
	}
	return out
}

// mixed returns valid declarations with something of everything.
func mixed(t *testing.T) []api.Decl {
	return declsOf(t, "message a(x: int 0..9, s: text 0..5); message b(); message c.d(x: int -3..3, y: int 0..0, u: text 0..5, v: text 2..2) where u == a.s and x <= a.x and len(v) == 2;")
}

// P14.1: ErrArg or false for declarations that are not valid, and for numbers that are none of a declaration.
func TestInvalidDeclarations(t *testing.T) {
	good := mixed(t)
	known := []api.Value{num(3), str("ab"), {}, {}, {}, {}}
	values := []api.Value{num(-3), num(0), str("ab"), str("~~")}
	if s := check(t, question{good, 2, values, known}); !s.check || !s.fill || s.errors != [2]api.Errno{} {
		t.Fatalf("%+v", s)
	}
	for what, d := range broken(good) {
		for label := range d {
			if s := check(t, question{d, label, values, known}); s.check || s.fill || s.errors != [2]api.Errno{api.ErrArg, api.ErrArg} {
				t.Errorf("%s: %+v", what, s)
			}
		}
	}
	for _, label := range []int{-1 << 63, -1, 3, 1<<63 - 1} {
		if s := check(t, question{good, label, values, known}); s.check || s.fill || s.errors != [2]api.Errno{api.ErrArg, api.ErrArg} {
			t.Errorf("%d: %+v", label, s)
		}
	}
}

// P14.1: declarations at the limits are valid, and those with one more of something are not.
func TestLimits(t *testing.T) {
	var d []api.Decl
	for i := range 6 {
		d = append(d, api.Decl{Name: "m" + strconv.Itoa(i), First: 4 * i, Fields: fieldsNamed("a", "b", "c", "abcdefghijklmnop")})
	}
	d[0].Fields[0].Sort = api.Sort{Kind: api.SortInt, Lo: -1000, Hi: 1000}
	d[0].Fields[1].Sort = api.Sort{Kind: api.SortText, Lo: 0, Hi: 40}
	d[0].Fields[2].Sort = api.Sort{Kind: api.SortText, Lo: 40, Hi: 40}
	d[0].Name = strings.Repeat("abcdefghijkl.", 3) + "abcdefghijk" // 50 bytes
	for i := range 34 {
		d = append(d, api.Decl{Name: "n" + strconv.Itoa(i), First: 24})
	}
	d[39].Guard = api.Guard{Diffs: slices.Repeat([]api.Diff{{X: 23, Y: -1, C: 20000}, {X: -1, Y: 23, C: -20000}}, 10), Equals: slices.Repeat([][2]int{{1, 2}}, 20)}
	good := func(d []api.Decl, want bool) {
		t.Helper()
		known := make([]api.Value, len(fieldsOf(d)))
		s := check(t, question{decls: d, label: 2, known: known})
		if valid(d) != want || (s.errors[0] == api.OK) != want || s.fill != want {
			t.Errorf("%v: %+v", want, s)
		}
	}
	good(d, true)
	good(append(slices.Clone(d), api.Decl{Name: "more", First: 24}), false)
	more := slices.Clone(d)
	more[39].Fields = fieldsNamed("a")
	good(more, false)
	more = slices.Clone(d[5:])
	for i := range more {
		more[i].First -= 20
	}
	more[34].Guard = api.Guard{}
	more[0].Fields = fieldsNamed("a", "b", "c", "d")
	good(more, true)
	more[0].Fields = fieldsNamed("a", "b", "c", "d", "e")
	for i := range more[1:] {
		more[i+1].First++
	}
	good(more, false)
	long := slices.Clone(d)
	long[0].Name = "a" + d[0].Name
	good(long, false)
}

// P14.1: what is known has a value for each variable, which fits or says that it is not known.
func TestWhatIsKnown(t *testing.T) {
	d := mixed(t)
	known := []api.Value{num(3), str("ab"), num(3), num(0), str(""), str("~ ")}
	values := []api.Value{num(-3), num(0), str("ab"), str("~~")}
	try := func(known []api.Value, want bool) {
		t.Helper()
		for _, label := range []int{2, 1} {
			v := values
			if label == 1 {
				v = nil
			}
			s := check(t, question{d, label, v, known})
			if s.check != want || s.fill != want || (s.errors[1] == api.OK) != want || s.errors[0] != api.OK {
				t.Errorf("%v, %d: %+v", known, label, s)
			}
		}
	}
	try(known, true)
	try([]api.Value{num(3), str("ab"), {}, {}, {}, {}}, true)
	try(known[:5], false)
	try(append(slices.Clone(known), api.Value{}), false)
	try(nil, false)
	for _, c := range []struct {
		at int
		v  api.Value
	}{
		{0, num(10)}, {0, num(-1)}, {0, api.Value{Kind: 1, N: 3, S: "x"}}, {0, str("")}, {0, api.Value{N: 3}}, {0, api.Value{S: "x"}}, {0, api.Value{Kind: 3}}, {0, api.Value{Kind: -1, N: 3}},
		{1, str("abcdef")}, {1, str("\x1f")}, {1, str("\x7f")}, {1, str("é")}, {1, api.Value{Kind: 2, S: "ab", N: 1}}, {1, num(2)}, {1, api.Value{S: "ab"}}, {1, api.Value{N: 1}},
		{2, num(4)}, {3, num(1)}, {4, str("abcdef")}, {5, str("")}, {5, str("abc")}, {5, str("a\x80")}, {5, api.Value{Kind: 2, N: 2}},
	} {
		changed := slices.Clone(known)
		changed[c.at] = c.v
		try(changed, false)
	}
}

// P14.1: values that do not fit the sorts, for Check and Learn; Learn does not ask whether they fulfil the guard.
func TestValuesOfOtherSorts(t *testing.T) {
	d := mixed(t)
	known := []api.Value{num(3), str("ab"), {}, {}, {}, {}}
	values := []api.Value{num(-3), num(0), str("ab"), str("~~")}
	try := func(values []api.Value, want api.Errno) {
		t.Helper()
		if s := check(t, question{d, 2, values, known}); s.check || s.errors[1] != want {
			t.Errorf("%v: %+v", values, s)
		}
	}
	try(values[:3], api.ErrType)
	try(nil, api.ErrType)
	try(append(slices.Clone(values), num(0)), api.ErrType)
	for i, l := range [][]api.Value{
		{num(-4), num(4), str(""), {}, {Kind: 1, N: 1, S: "x"}, {N: 1}, {Kind: 3}},
		{num(1), num(-1), str("")},
		{str("abcdef"), str("\x19"), str("\xff"), num(0), {}, {Kind: 2, S: "ab", N: 1}},
		{str("a"), str("abc"), str("a\n"), num(2)},
	} {
		for _, v := range l {
			changed := slices.Clone(values)
			changed[i] = v
			try(changed, api.ErrType)
		}
	}
	// The guard asks for u == a.s.
	changed := slices.Clone(values)
	changed[2] = str("")
	try(changed, api.OK)
	known = make([]api.Value, 6)
	try(values, api.OK)
	known = nil
	try(changed[:1], api.ErrArg)
}
