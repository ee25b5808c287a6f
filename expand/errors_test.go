package expand_test

import (
	"slices"
	"strconv"
	"strings"
	"testing"

	"farandole/api"
	"farandole/expand"
	"farandole/syntax"
)

// P12.1: ErrArg, if the protocols have a problem, wherever it is and whatever the name is.
func TestProblems(t *testing.T) {
	good := "protocol P(A, B) { message m(); A -> B: m; } "
	for _, s := range []string{
		good + "protocol P(A) { }", good + "protocol Q(A, A) { }", good + "protocol Q(A) { message m(); message m(); }", good + "protocol Q(A) { message m(x: int 2..1); }", good + "protocol Q(A) { message m(x: int 0..1) where y < 1; }", good + "protocol Q(A) { message m(x: int 0..1) where len(x) < 1; }",
		good + "protocol Q(A) { A -> B: m; }", good + "protocol Q(A, B) { A -> B: m; }", good + "protocol Q(A) { loop L { loop L { } } }", good + "protocol Q(A) { again L; }", good + "protocol Q(A) { loop L { again L; choice at A { } } }", good + "protocol Q(A) { loop L { par { again L; } and { } } }",
		good + "protocol Q(A) { call R(A) as r; }", good + "protocol Q(A) { call P(A) as r; }", good + "protocol Q(A, B) { call P(A, A) as r; }", good + "protocol Q(A, B) { call P(A, B) as r; call P(A, B) as r; }", good + "protocol Q(A) { call Q(A) as r; }", "protocol Q(A) { } " + good + chain(5) + "protocol C5(A) { }",
	} {
		l := parsed(t, s)
		for _, name := range []string{"P", "Q", "R", ""} {
			if _, e := check(t, l, name); e != api.ErrArg {
				t.Errorf("%s for %q in %s", e.Name(), name, s)
			}
		}
	}
	for _, l := range [][]syntax.Protocol{
		{{}}, {{Name: "P"}}, append(parsed(t, good), syntax.Protocol{Name: "Q"}), slices.Repeat(parsed(t, good), 11),
		{{Name: "P", Roles: []string{"A"}, Body: make([]syntax.Item, 1)}}, {{Name: "P", Roles: []string{"A"}, Messages: make([]syntax.Message, 1)}}, {{Name: "P", Roles: []string{"A"}, Body: []syntax.Item{{Kind: syntax.Par, Blocks: make([][]syntax.Item, 1)}}}},
	} {
		for _, name := range []string{"P", "Q", ""} {
			if p, e := expand.Expand(l, name); e != api.ErrArg || dump(p) != dump(syntax.Protocol{}) {
				t.Errorf("%s and %s for %q in %.300s", e.Name(), dump(p), name, dump(l))
			}
		}
	}
}

// chain returns protocols C0, C1 and so on that call each other, so many calls in all; the last one of them is missing.
func chain(calls int) string {
	var s strings.Builder
	for i := range calls {
		s.WriteString("protocol C" + strconv.Itoa(i) + "(A) { call C" + strconv.Itoa(i+1) + "(A) as x; } ")
	}
	return s.String()
}

// P12.1: ErrNone, if none of the protocols has the name, also if something else has it.
func TestNoProtocol(t *testing.T) {
	l := parsed(t, "protocol P(A, B) { message m(); call Q(A) as q; loop L { } par { choice at A { } } and { choice at A { } } } protocol Q(C) { }")
	for _, name := range []string{"", "R", "A", "C", "m", "q", "q.m", "L", "p", "P ", " P", "P.Q", "PQ", "loop", "\xff", strings.Repeat("P", 1000000)} {
		if _, e := check(t, l, name); e != api.ErrNone {
			t.Errorf("%s for %.20q", e.Name(), name)
		}
		if _, e := check(t, nil, name); e != api.ErrNone {
			t.Errorf("%s for %.20q without protocols", e.Name(), name)
		}
	}
}

// P12.1: ErrPar, if a role takes part in two blocks of a Par; and what does not count.
func TestSharedRoles(t *testing.T) {
	const head, tail = "protocol P(A, B, C) { message m(); ", " } protocol Q(A) { } protocol R(B, A) { }"
	for blocks, e := range map[string]api.Errno{
		"{ A -> B: m; } and { B -> C: m; }":                                                                           api.ErrPar,
		"{ A -> B: m; } and { C -> B: m; }":                                                                           api.ErrPar,
		"{ A -> B: m; } and { A -> C: m; }":                                                                           api.ErrPar,
		"{ A -> B: m; } and { C -> A: m; }":                                                                           api.ErrPar,
		"{ A -> B, C: m; } and { choice at C { } }":                                                                   api.ErrPar,
		"{ choice at A { } } and { choice at A { } }":                                                                 api.ErrPar,
		"{ choice at A { } } and { A -> B: m; }":                                                                      api.ErrPar,
		"{ choice at C { } } and { A -> B: m; }":                                                                      api.OK,
		"{ call Q(A) as q; } and { choice at A { } }":                                                                 api.ErrPar,
		"{ call Q(A) as q; } and { call Q(A) as r; }":                                                                 api.ErrPar,
		"{ call Q(A) as q; } and { call Q(B) as r; }":                                                                 api.OK,
		"{ call R(A, B) as q; } and { call Q(B) as r; }":                                                              api.ErrPar,
		"{ call R(B, A) as q; } and { call Q(C) as r; }":                                                              api.OK,
		"{ loop L { } } and { loop L { again L; } }":                                                                  api.OK,
		"{ loop L { choice at A { } } } and { A -> B: m; }":                                                           api.ErrPar,
		"{ choice at A { choice at B { } } } and { choice at B { } }":                                                 api.ErrPar,
		"{ choice at A within 5 { } else { A -> B: m; } } and { C -> B: m; }":                                         api.ErrPar,
		"{ A -> B: m; A -> B: m; choice at A { } } and { choice at C { } }":                                           api.OK,
		"{ } and { A -> B: m; }":                                                                                      api.OK,
		"{ } and { }":                                                                                                 api.OK,
		"{ A -> B: m; } and { } and { choice at C { } } and { choice at A { } }":                                      api.ErrPar,
		"{ } and { choice at A { } } and { choice at B { } } and { choice at B { } }":                                 api.ErrPar,
		"{ choice at B { } } and { choice at A { } } and { choice at C { } }":                                         api.OK,
		"{ par { choice at A { } } and { } } and { choice at A { } }":                                                 api.ErrPar,
		"{ par { choice at A { } } and { choice at A { } } } and { }":                                                 api.ErrPar,
		"{ } and { choice at A { par { } and { } and { par { choice at B { } } and { B -> A: m; } } } }":              api.ErrPar,
		"{ par { choice at A { } } and { choice at B { } } choice at A { } } and { choice at C { } }":                 api.OK,
		"{ choice at A { } } and { choice at B { } } choice at A { } par { choice at A { } } and { choice at B { } }": api.OK,
		"{ choice at A { } } and { choice at B { } } par { choice at A { } } and { choice at A { } }":                 api.ErrPar,
		"{ } and { } loop L { choice at A { } or { par { choice at C { } } and { choice at C { } } } }":               api.ErrPar,
	} {
		fails(t, head+"par "+blocks+tail, e)
		fails(t, head+"choice at A { } or { par "+blocks+" }"+tail, e)
		// In what is called, and in what is called by that; but not in other protocols.
		at := strings.Replace(head, "P(", "X(", 1) + "par " + blocks + tail
		fails(t, "protocol P(C, B, A, X) { call Y(A) as y; call X(B, C, X) as x; } protocol Y(A) { } "+at, e)
		fails(t, "protocol P(C, B, A) { choice at A { } or { call Y(A, B, C) as y; } } protocol Y(C, A, B) { loop L { call X(C, B, A) as x; again L; } } "+at, e)
		fails(t, "protocol P(C, B, A) { call Q(A) as q; call R(A, B) as r; } "+at, api.OK)
	}
}

// P12.1: ErrExist, if two messages have the same path.
func TestSameMessages(t *testing.T) {
	for s, e := range map[string]api.Errno{
		"protocol P(A) { message q.m(); call Q(A) as q; } protocol Q(A) { message m(); }":                                                                               api.ErrExist,
		"protocol P(A) { message q.m(); message m(); message q(); call Q(A) as m; } protocol Q(A) { message m(); message q.m(); }":                                      api.OK,
		"protocol P(A) { message q.m.n(); call Q(A) as q; } protocol Q(A) { message m(); message m.n(); }":                                                              api.ErrExist,
		"protocol P(A) { message q.r.m(); call Q(A) as q; } protocol Q(A) { call R(A) as r; } protocol R(A) { message m(); }":                                           api.ErrExist,
		"protocol P(A) { message r.m(); call Q(A) as q; } protocol Q(A) { call R(A) as r; } protocol R(A) { message m(); }":                                             api.OK,
		"protocol P(A) { call Q(A) as q; } protocol Q(A) { message r.m(); call R(A) as r; } protocol R(A) { message m(); }":                                             api.ErrExist,
		"protocol P(A) { call Q(A) as q; } protocol Q(A) { message r.m(x: int 0..1); call R(A) as r; } protocol R(A) { message m(y: int 0..1) where m.y < 1; }":         api.ErrExist,
		"protocol P(A) { call Q(A) as q; call R(A) as r; } protocol Q(A) { message r.m(); message m(); } protocol R(A) { message m(); message q.m(); }":                 api.OK,
		"protocol P(A) { choice at A { call Q(A) as q; } or { loop L { call Q(A) as r; } } } protocol Q(A) { message m(); }":                                            api.OK,
		"protocol P(A, B) { message q.m(); par { call Q(A) as q; } and { call Q(B) as r; } } protocol Q(A) { message m(); }":                                            api.ErrExist,
		"protocol P(A) { message q.m(x: int 0..1); message q.n(y: int 0..1) where q.m.x < y; call Q(A) as q; } protocol Q(A) { message m(z: int 0..1) where m.z < 1; }": api.ErrExist,
		"protocol P(A) { message q.a(x: int 0..1); message q.n(y: int 0..1) where q.a.x < y; call Q(A) as q; } protocol Q(A) { message m(z: int 0..1) where m.z < 1; }": api.OK,
		"protocol P(A) { message m(); } protocol R(A) { message q.m(); call Q(A) as q; } protocol Q(A) { message m(); }":                                                api.OK,
	} {
		fails(t, s, e)
	}
}

// P12.1: ErrExist, if a loop and one around it have the same path.
func TestSameLoops(t *testing.T) {
	q := " protocol Q(A) { loop L { choice at A { again L; } or { } } }"
	for s, e := range map[string]api.Errno{
		"protocol P(A) { loop q.L { call Q(A) as q; } }" + q:                                       api.ErrExist,
		"protocol P(A) { loop q.L { choice at A { call Q(A) as q; } or { again q.L; } } }" + q:     api.ErrExist,
		"protocol P(A, B) { loop q.L { par { call Q(A) as q; } and { } } }" + q:                    api.ErrExist,
		"protocol P(A) { loop q.L { } call Q(A) as q; loop q.L { } }" + q:                          api.OK,
		"protocol P(A) { loop L { loop q { call Q(A) as q; } } }" + q:                              api.OK,
		"protocol P(A) { loop q.L { call Q(A) as r; } call Q(A) as q; }" + q:                       api.OK,
		"protocol P(A) { choice at A { loop q.L { } } or { call Q(A) as q; } }" + q:                api.OK,
		"protocol P(A) { message q.L(); call Q(A) as q; }" + q:                                     api.OK,
		"protocol P(A) { loop r.q.L { call R(A) as r; } } protocol R(A) { call Q(A) as q; }" + q:   api.ErrExist,
		"protocol P(A) { loop q.L { call R(A) as r; } } protocol R(A) { call Q(A) as q; }" + q:     api.OK,
		"protocol P(A) { call R(A) as r; } protocol R(A) { loop q.L { call Q(A) as q; } }" + q:     api.ErrExist,
		"protocol P(A) { loop M { loop q.L { loop N { call Q(A) as q; } } } }" + q:                 api.ErrExist,
		"protocol P(A) { loop q.L { call Q(A) as q; } } protocol Q(A) { loop M { loop L { } } }":   api.ErrExist,
		"protocol P(A) { loop q.M { call Q(A) as q; } } protocol Q(A) { loop M { loop L { } } }":   api.ErrExist,
		"protocol P(A) { loop q.a.L { call Q(A) as q; } } protocol Q(A) { loop a.L { } }":          api.ErrExist,
		"protocol P(A) { loop q.a { call Q(A) as q; } } protocol Q(A) { loop a.L { } loop L { } }": api.OK,
	} {
		fails(t, s, e)
	}
}

// P12.1: the errors in their order.
func TestOrderOfErrors(t *testing.T) {
	shared := "par { choice at A { } } and { choice at A { } } "
	twice := "loop q.L { call Q(A) as q; } "
	q := "protocol Q(A) { loop L { } } "
	large := "protocol L(A) { " + strings.Repeat("choice at A { } ", 160) + "} "
	many := "call L(A) as a; call L(A) as b; "
	bad := "protocol X(A) { again M; } "
	for _, c := range []struct {
		source, name string
		e            api.Errno
	}{
		{"protocol P(A) { " + shared + twice + many + "} " + q + large + bad, "P", api.ErrArg},
		{"protocol P(A) { " + shared + twice + many + "} " + q + large + bad, "Y", api.ErrArg},
		{"protocol P(A) { " + shared + twice + many + "} " + q + large, "Y", api.ErrNone},
		{"protocol P(A) { " + shared + twice + many + "} " + q + large, "P", api.ErrPar},
		{"protocol P(A) { " + many + twice + shared + "} " + q + large, "P", api.ErrPar},
		{"protocol P(A) { " + twice + shared + "} " + q, "P", api.ErrPar},
		{"protocol P(A) { " + many + shared + "} " + large, "P", api.ErrPar},
		{"protocol P(A) { " + twice + many + "} " + q + large, "P", api.ErrLimit},
		{"protocol P(A) { " + many + twice + "} " + q + large, "P", api.ErrLimit},
		{"protocol P(A) { " + twice + "} " + q + large, "P", api.ErrExist},
		// Also where they are in different protocols, of which one is called behind the other, or calls it.
		{"protocol P(A) { " + many + "call Q(A) as q; } protocol Q(A) { " + shared + "} " + large, "P", api.ErrPar},
		{"protocol P(A) { call Q(A) as q; " + many + "} protocol Q(A) { " + shared + "} " + large, "P", api.ErrPar},
		{"protocol P(A) { call Q(A) as q; } protocol Q(A) { " + many + "call R(A) as r; } protocol R(A) { " + shared + "} " + large, "P", api.ErrPar},
		{"protocol P(A) { call R(A) as r; } protocol Q(A) { " + shared + "} protocol R(A) { " + many + "call S(A) as s; } protocol S(A) { call Q(A) as q; } " + large, "P", api.ErrPar},
		{"protocol P(A) { " + many + "call Q(A) as q; } protocol Q(A) { message r.m(); call R(A) as r; } protocol R(A) { message m(); } " + large, "P", api.ErrLimit},
		{"protocol P(A) { " + shared + "call Q(A) as q; } protocol Q(A) { message r.m(); call R(A) as r; } protocol R(A) { message m(); }", "P", api.ErrPar},
	} {
		if _, e := check(t, parsed(t, c.source), c.name); e != c.e {
			t.Errorf("%s, want %s, for %s in %s", e.Name(), c.e.Name(), c.name, c.source)
		}
	}
}
