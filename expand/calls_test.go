package expand_test

import (
	"testing"

	"farandole/api"
	"farandole/expand"
	"farandole/syntax"
)

// P12.1: the examples of the chapter and of the README.
func TestExamples(t *testing.T) {
	expands(t, "protocol P(A, B) { message a(); A -> B: a; call Q(A) as q; } protocol Q(X) { message m(); }",
		"protocol P(A, B) { message a(); message q.m(); A -> B: a; }")
	expands(t, "protocol P(A, B) { message a(); par { A -> B: a; } and { } call Q(B, A) as q; } protocol Q(X, Y) { message m(); X -> Y: m; }",
		"protocol P(A, B) { message a(); message q.m(); A -> B: a; B -> A: q.m; }")
}

// P12.1: the name, the roles, the messages and the items of a protocol without calls and parallel branches stay as they are.
func TestOwnParts(t *testing.T) {
	for _, s := range []string{
		"protocol P(A) { }",
		"protocol P(C, A, B) { }",
		"protocol loops(A, P, m) { message m(P: int -3..4, A: text 0..40) where P <= 5 and m.P + 1 > len(A) - 2 and A == A; message A.m.n(x: int 0..0) where x == m.P and len(m.A) < 999999; message n(); P -> A, m: m; loop m { choice at A within 1000 { A -> P: A.m.n; again m; } or { loop A.L { choice at P { } } } else { m -> P, A: n; } } }",
	} {
		expands(t, s, s)
		expands(t, s+" protocol Q(X) { message m(); }", s)
	}
}

// P12.1: the roles of a call stand for those of what is called, in their order, and all at the same time.
func TestRoles(t *testing.T) {
	q := " protocol Q(A, B, C) { message m(); A -> B: m; B -> C, A: m; choice at C within 5 { C -> B, A: m; } else { choice at A { } } choice at B { } }"
	expands(t, "protocol P(A, B, C) { call Q(A, B, C) as q; }"+q, "protocol P(A, B, C) { message q.m(); A -> B: q.m; B -> C, A: q.m; choice at C within 5 { C -> B, A: q.m; } else { choice at A { } } choice at B { } }")
	expands(t, "protocol P(A, B, C) { call Q(B, C, A) as q; }"+q, "protocol P(A, B, C) { message q.m(); B -> C: q.m; C -> A, B: q.m; choice at A within 5 { A -> C, B: q.m; } else { choice at B { } } choice at C { } }")
	expands(t, "protocol P(C, X, B, Y) { call Q(Y, B, X) as q; }"+q, "protocol P(C, X, B, Y) { message q.m(); Y -> B: q.m; B -> X, Y: q.m; choice at X within 5 { X -> B, Y: q.m; } else { choice at Y { } } choice at B { } }")
	// A role may have the name of a message, of a loop, or of the call.
	expands(t, "protocol P(m, q, L) { call Q(q, m, L) as q; } protocol Q(L, m, Q) { message m(); message Q(); loop L { m -> L, Q: m; choice at Q { again L; } } L -> m: Q; }",
		"protocol P(m, q, L) { message q.m(); message q.Q(); loop q.L { m -> q, L: q.m; choice at L { again q.L; } } q -> m: q.Q; }")
	// Over several calls.
	expands(t, "protocol P(A, B, C) { call Q(C, A) as q; } protocol Q(A, B) { call R(B, A) as r; call R(A, B) as s; } protocol R(B, A) { choice at A { } choice at B { } }",
		"protocol P(A, B, C) { choice at C { } choice at A { } choice at A { } choice at C { } }")
	expands(t, "protocol P(A, B, C, D, E, F) { call Q(F, E, D, C, B, A) as q; } protocol Q(A, B, C, D, E, F) { message m(); call R(B, D, F) as r; F -> A, B, C, D, E: m; } protocol R(F, A, B) { message m(); A -> B, F: m; }",
		"protocol P(A, B, C, D, E, F) { message q.m(); message q.r.m(); C -> A, E: q.r.m; A -> F, E, D, C, B: q.m; }")
}

// P12.1: messages of the protocol in order, and then those of the calls in the order of the source.
func TestMessages(t *testing.T) {
	q := " protocol Q(A) { message n(); message m(); message m.n(); }"
	expands(t, "protocol P(A) { message y(); message x(); call Q(A) as z; call Q(A) as a; }"+q,
		"protocol P(A) { message y(); message x(); message z.n(); message z.m(); message z.m.n(); message a.n(); message a.m(); message a.m.n(); }")
	// In the order of the source, also in blocks, and whether they are the last ones of their blocks or not.
	r := " protocol Q(A) { message m(); }"
	expands(t, "protocol P(A) { call Q(A) as i; choice at A within 7 { call Q(A) as h; loop L { call Q(A) as g; choice at A { call Q(A) as f; } or { call Q(A) as e; } call Q(A) as d; } } or { } else { call Q(A) as c; call Q(A) as b; } call Q(A) as a; }"+r,
		"protocol P(A) { message i.m(); message h.m(); message g.m(); message f.m(); message e.m(); message d.m(); message c.m(); message b.m(); message a.m(); choice at A within 7 { loop L { choice at A { } or { } } } or { } else { } }")
	expands(t, "protocol P(A, B, C) { par { call Q(C) as c; call Q(C) as z; } and { call Q(A) as b; } and { call Q(B) as a; } call Q(A) as w; }"+r,
		"protocol P(A, B, C) { message c.m(); message z.m(); message b.m(); message a.m(); message w.m(); }")
	// All messages of a call stand together, also those of further calls in it; and its own ones are ahead of them.
	expands(t, "protocol P(A) { message x(); call Q(A) as b; call R(A) as a; } protocol R(A) { message m(); } protocol Q(A) { message m(); message n(); call R(A) as z; call R(A) as y; }",
		"protocol P(A) { message x(); message b.m(); message b.n(); message b.z.m(); message b.y.m(); message a.m(); }")
	// By four calls, one in the other.
	expands(t, "protocol P(A) { message p(); call Q(A) as d; } protocol Q(A) { message q(); call R(A) as c; } protocol R(A) { message r(); call S(A) as b; } protocol S(A) { message s(); call T(A) as a; } protocol T(A) { message t(); loop L { } }",
		"protocol P(A) { message p(); message d.q(); message d.c.r(); message d.c.b.s(); message d.c.b.a.t(); loop d.c.b.a.L { } }")
}

// P12.1: the fields of messages stay as they are, and terms name the messages of their own call.
func TestAtoms(t *testing.T) {
	q := " protocol Q(A) { message m(x: int -1000..1000, y: text 0..40, m: int 3..3) where x < m.x and m.m + 5 >= n.x - 6 and len(y) == 7 and y == m.y and len(n.m.y) + 1 > -8 and 1 <= len(m.y) - 2; message n(x: int 0..1); message n.m(y: text 1..2) where m.y == y; }"
	expands(t, "protocol P(A) { message m(x: int 1..2) where m.x > x; call Q(A) as q; }"+q,
		"protocol P(A) { message m(x: int 1..2) where m.x > x; message q.m(x: int -1000..1000, y: text 0..40, m: int 3..3) where x < q.m.x and q.m.m + 5 >= q.n.x - 6 and len(y) == 7 and y == q.m.y and len(q.n.m.y) + 1 > -8 and 1 <= len(q.m.y) - 2; message q.n(x: int 0..1); message q.n.m(y: text 1..2) where q.m.y == y; }")
	expands(t, "protocol P(A) { call Q(A) as q; call Q(A) as x; } protocol Q(A) { call R(A) as y; } protocol R(A) { message x(x: int 1..2) where y.x < x; message y(x: int 1..2) where x.x < 5 and y.x > x; }",
		"protocol P(A) { message q.y.x(x: int 1..2) where q.y.y.x < x; message q.y.y(x: int 1..2) where q.y.x.x < 5 and q.y.y.x > x; message x.y.x(x: int 1..2) where x.y.y.x < x; message x.y.y(x: int 1..2) where x.y.x.x < 5 and x.y.y.x > x; }")
}

// P12.1: loops of a call have paths of their own, and are begun again by them.
func TestLoops(t *testing.T) {
	q := " protocol Q(A, B) { message m(); loop L { choice at B within 9 { A -> B: m; loop a.M { choice at A { again a.M; } or { again L; } } } or { again L; } else { } } loop L { } }"
	expands(t, "protocol P(A, B) { loop L { choice at A { call Q(B, A) as q; again L; } or { call Q(A, B) as r; } } }"+q,
		"protocol P(A, B) { message q.m(); message r.m(); loop L { choice at A { loop q.L { choice at A within 9 { B -> A: q.m; loop q.a.M { choice at B { again q.a.M; } or { again q.L; } } } or { again q.L; } else { } } loop q.L { } again L; } or { loop r.L { choice at B within 9 { A -> B: r.m; loop r.a.M { choice at A { again r.a.M; } or { again r.L; } } } or { again r.L; } else { } } loop r.L { } } } }")
}

// P12.1: the items of the blocks of a Par stand one behind the other, in place of it.
func TestParallel(t *testing.T) {
	head := "protocol P(A, B, C, D) { message m(); message n(); "
	for body, want := range map[string]string{
		"par { } and { }": "",
		"A -> B: m; par { B -> A: m; A -> B: n; } and { C -> D: m; D -> C: n; } B -> A: n;":                                                               "A -> B: m; B -> A: m; A -> B: n; C -> D: m; D -> C: n; B -> A: n;",
		"par { choice at D { } } and { choice at C { } } and { } and { choice at B { } } and { choice at A { } }":                                         "choice at D { } choice at C { } choice at B { } choice at A { }",
		"par { par { choice at D { } } and { choice at C { } } choice at C { } } and { A -> B: m; par { choice at A { } } and { choice at B { } } }":      "choice at D { } choice at C { } choice at C { } A -> B: m; choice at A { } choice at B { }",
		"loop L { par { A -> B: m; } and { C -> D: m; } choice at A { again L; } or { par { loop M { again M; } } and { choice at A { } } A -> B: n; } }": "loop L { A -> B: m; C -> D: m; choice at A { again L; } or { loop M { again M; } choice at A { } A -> B: n; } }",
		"choice at A within 3 { par { A -> B: m; } and { D -> C: m; } } or { par { } and { } } else { par { } and { B -> A: m; } }":                       "choice at A within 3 { A -> B: m; D -> C: m; } or { } else { B -> A: m; }",
		"par { loop L { choice at A { A -> B: m; again L; } or { } } } and { loop L { choice at C { again L; } or { C -> D: n; } } }":                     "loop L { choice at A { A -> B: m; again L; } or { } } loop L { choice at C { again L; } or { C -> D: n; } }",
	} {
		expands(t, head+body+" }", head+want+" }")
		// In the same way in what is called.
		_, e := check(t, parsed(t, "protocol Q(X, Y, Z, W) { message m(); call P(W, Y, X, Z) as p; par { call P(X, Y, Z, W) as q; } and { } } "+head+body+" }"), "Q")
		if e != api.OK {
			t.Errorf("%s for a call of %s", e.Name(), body)
		}
	}
	expands(t, "protocol P(A, B, C, D) { par { call Q(C, A) as q; } and { call Q(B, D) as r; choice at D { call Q(D, B) as s; } } } protocol Q(X, Y) { message m(); par { choice at Y { } } and { choice at X { } loop L { again L; } } X -> Y: m; }",
		"protocol P(A, B, C, D) { message q.m(); message r.m(); message s.m(); choice at A { } choice at C { } loop q.L { again q.L; } C -> A: q.m; choice at D { } choice at B { } loop r.L { again r.L; } B -> D: r.m; choice at D { choice at B { } choice at D { } loop s.L { again s.L; } D -> B: s.m; } }")
}

// P12.1: any of the protocols can be expanded.
func TestAnyProtocol(t *testing.T) {
	l := parsed(t, "protocol P(A) { message a(); call Q(A) as q; } protocol Q(B) { message b(); call R(B) as r; } protocol R(C) { message c(); choice at C { } }")
	for name, s := range map[string]string{
		"P": "protocol P(A) { message a(); message q.b(); message q.r.c(); choice at A { } }",
		"Q": "protocol Q(B) { message b(); message r.c(); choice at B { } }",
		"R": "protocol R(C) { message c(); choice at C { } }",
	} {
		if p, e := expand.Expand(l, name); e != api.OK || !syntax.Equal([]syntax.Protocol{p}, parsed(t, s)) {
			t.Errorf("%s and %s for %s", e.Name(), dump(p), name)
		}
		check(t, l, name)
	}
}
