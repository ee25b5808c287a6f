package names_test

import (
	"slices"
	"strings"
	"testing"

	"farandole/api"
	"farandole/names"
	"farandole/syntax"
)

// P11.1: the examples of the chapter.
func TestExamples(t *testing.T) {
	problem(t, "protocol P(A, B) { A -> C: m; }", "P", "C", api.ErrRole)
	problem(t, "protocol P(A) { call P(A) as x; }", "P", "P", api.ErrLimit)
	problem(t, "", "", "", api.OK)
}

// P11.1: ErrArg alone for protocols that are not valid, also behind others with problems.
func TestNotValid(t *testing.T) {
	double := parsed(t, "protocol P(A, A) { }")
	for _, l := range [][]syntax.Protocol{
		{{}}, {{Name: "P"}}, {{Name: "P", Roles: []string{"A", ""}}}, {{Name: "loop", Roles: []string{"A"}}}, slices.Repeat(double, 11), append(double, syntax.Protocol{Name: "Q"}),
		withItems(syntax.Item{}), withItems(syntax.Item{Kind: syntax.Again}), withItems(syntax.Item{Kind: syntax.Loop, Name: "L"}), withField(api.Sort{Kind: api.SortText, Lo: -1}), withField(api.Sort{Kind: 3}), withField(api.Sort{}),
		withField(api.Sort{Kind: api.SortInt, Hi: 1000000}), withAtoms(syntax.Atom{Op: "<"}), withAtoms(syntax.Atom{Left: syntax.Term{Kind: syntax.Const}, Op: "!=", Right: syntax.Term{Kind: syntax.Const}}),
	} {
		if got := names.Check(l); got != (names.Problem{Err: api.ErrArg}) || syntax.Valid(l) {
			t.Errorf("%v for %s", got, dump(l))
		}
	}
}

// P11.1: the names that protocols declare.
func TestDeclarations(t *testing.T) {
	problem(t, "protocol P(A) { } protocol Q(A) { } protocol P(B) { }", "P", "P", api.ErrExist)
	problem(t, "protocol P(A) { } protocol Q(A) { } protocol Q(A) { } protocol P(A) { }", "Q", "Q", api.ErrExist)
	problem(t, "protocol P(A, B, C, B, A) { }", "P", "B", api.ErrExist)
	problem(t, "protocol P(A) { } protocol Q(P, Q, A) { }", "", "", api.OK)
	problem(t, "protocol P(A) { message m(); message a.m(); message a(); message m.a(); message A(); message P(); message m(); message a.m(); }", "P", "m", api.ErrExist)
	problem(t, "protocol P(A) { message a.m(); message m(); message a.m(); }", "P", "a.m", api.ErrExist)
	problem(t, "protocol P(A) { message m(); } protocol Q(A) { message m(); }", "", "", api.OK)
	problem(t, "protocol P(A) { message m(x: int 1..1, y: int 1..1, y: text 1..1, x: int 1..1); }", "P", "y", api.ErrExist)
	problem(t, "protocol P(A) { message m(x: int 1..1, m: int 1..1); message n(x: int 1..1, A: int 1..1, P: int 1..1); message m.x(x: int 1..1); }", "", "", api.OK)
	// The fields of a message are ahead of the next message, and behind its name.
	problem(t, "protocol P(A) { message m(x: int 1..1, x: int 1..1); message m(); }", "P", "x", api.ErrExist)
	problem(t, "protocol P(A) { message m(); message m(x: int 2..1); }", "P", "m", api.ErrExist)
	problem(t, "protocol P(A) { message m(x: int 2..1); message m(); }", "P", "x", api.ErrRange)
	// A field that exists is ahead of its own sort, and behind that of the field ahead.
	problem(t, "protocol P(A) { message m(x: int 1..1, x: int 2..1); }", "P", "x", api.ErrExist)
	problem(t, "protocol P(A) { message m(x: int 2..1, x: int 1..1); }", "P", "x", api.ErrRange)
	problem(t, "protocol P(A) { message m(x: int 1..1, y: int -1001..1, z: int 5..4); }", "P", "y", api.ErrRange)
}

// P11.1: the least and the greatest values of sorts.
func TestSorts(t *testing.T) {
	for _, s := range []string{"int -1000..1000", "int -1000..-1000", "int 1000..1000", "int 0..0", "int -1..0", "text 0..40", "text 40..40", "text 0..0", "text 39..40"} {
		problem(t, "protocol P(A) { message m(x: "+s+"); }", "", "", api.OK)
	}
	for _, s := range []string{"int -1001..1000", "int -1000..1001", "int -1001..-1001", "int 1001..1001", "int 1..0", "int 0..-1", "int -999999..999999", "text 0..41", "text 41..41", "text 1..0", "text 40..39", "text 41..40", "text 0..999999"} {
		problem(t, "protocol P(A) { message m(x: "+s+"); }", "P", "x", api.ErrRange)
	}
}

// P11.1: the fields and the sorts of atoms, in a message with the integer x and the texts y and z, and another one with the text x and the integer y.
func TestAtoms(t *testing.T) {
	for atoms, e := range map[string]api.Errno{
		"x < 1": api.OK, "1 < 2": api.OK, "x < x": api.OK, "x < n.y + 1": api.OK, "n.y - 1 >= -7": api.OK, "len(y) < 3": api.OK, "len(y) + 1 > x": api.OK, "len(n.x) == len(y) - 5": api.OK, "m.x == 3": api.OK, "y == z": api.OK, "y == y": api.OK, "n.x == m.y": api.OK, "len(y) == 3": api.OK, "x == n.y + 2": api.OK,
		"a < 1": api.ErrName, "1 < a": api.ErrName, "len(a) < 1": api.ErrName, "n.z < 1": api.ErrName, "m.y == n.z": api.ErrName, "o.x < 1": api.ErrName, "1 > len(o.x)": api.ErrName, "n.m.x < 1": api.ErrName, "m < 1": api.ErrName, "n == 1": api.ErrName, "A < 1": api.ErrName, "P.x < 1": api.ErrName,
		"len(x) < 1": api.ErrType, "1 < len(x)": api.ErrType, "len(n.y) == len(y)": api.ErrType, "len(y) == len(m.x)": api.ErrType,
		"y == 1": api.ErrType, "1 == y": api.ErrType, "y == x": api.ErrType, "x == y": api.ErrType, "y == len(z)": api.ErrType, "len(z) == y": api.ErrType, "y < z": api.ErrType, "y <= z": api.ErrType, "y >= z": api.ErrType, "y > z": api.ErrType, "y + 1 == z": api.ErrType, "y == z + 1": api.ErrType, "y - 1 == z - 1": api.ErrType, "y == n.y": api.ErrType, "x == n.x": api.ErrType, "y < 1": api.ErrType,
		// A field that does not exist is ahead of what does not fit in the same atom only.
		"len(x) < a": api.ErrName, "a == len(x)": api.ErrName, "y < o.x": api.ErrName, "len(x) < 1 and a < 1": api.ErrType, "a < 1 and len(x) < 1": api.ErrName, "x < 1 and y == z and y < z and a < 1": api.ErrType, "y == 1 and a < 1": api.ErrType, "x < 1 and x < 2 and x < 3 and x < 4 and x < 5 and a == 6": api.ErrName,
	} {
		where, name := "P", "m"
		if e == api.OK {
			where, name = "", ""
		}
		problem(t, "protocol P(A) { message n(x: text 1..2, y: int 0..9); message m(x: int 0..9, y: text 0..3, z: text 0..3) where "+atoms+"; }", where, name, e)
		problem(t, "protocol P(A) { message m(x: int 0..9, y: text 0..3, z: text 0..3) where "+atoms+"; message n(x: text 1..2, y: int 0..9); A -> B: o; }", "P", cmpOr(name, "B"), cmpOr(e, api.ErrRole))
	}
	// The messages of other protocols do not count, and the name is that of the message with the atom.
	problem(t, "protocol P(A) { message m() where n.x < 1; } protocol Q(A) { message n(x: int 1..1); }", "P", "m", api.ErrName)
	problem(t, "protocol Q(A) { message n(x: int 1..1); } protocol P(A) { message a.m() where n.x < 1; }", "P", "a.m", api.ErrName)
	problem(t, "protocol P(A) { message a.m(x: int 0..1); message m(y: int 0..1) where a.m.x < m.y and x < 1; message n(x: int 0..1); }", "P", "m", api.ErrName)
	// All sorts are ahead of all atoms.
	problem(t, "protocol P(A) { message m() where x < 1; message n(x: int 2..1); }", "P", "x", api.ErrRange)
	problem(t, "protocol P(A) { message m() where x < 1; message m(x: int 0..1); }", "P", "m", api.ErrExist)
}

// cmpOr returns the first of two values that is not zero.
func cmpOr[T comparable](a, b T) T {
	var zero T
	if a != zero {
		return a
	}
	return b
}

// inBody is a problem of a protocol P with the roles A, B and C, the messages m and a.n, and a body; ahead of or behind a protocol Q with two roles.
func inBody(t *testing.T, body, name string, e api.Errno) {
	t.Helper()
	where := "P"
	if e == api.OK {
		where = ""
	}
	p := "protocol P(A, B, C) { message m(); message a.n(x: int 0..1); " + body + " }"
	problem(t, p+" protocol Q(A, B) { }", where, name, e)
	problem(t, "protocol Q(A, C) { } "+p+" protocol R(A, A) { }", cmpOr(where, "R"), cmpOr(name, "A"), cmpOr(e, api.ErrExist))
}

// P11.1: the roles and messages of sends and choices.
func TestSends(t *testing.T) {
	inBody(t, "A -> B: m; B -> C, A: a.n; C -> A, B: m; choice at A { } choice at C { } or { }", "", api.OK)
	inBody(t, "D -> B: m;", "D", api.ErrRole)
	inBody(t, "A -> D: m;", "D", api.ErrRole)
	inBody(t, "A -> B, C, D: m;", "D", api.ErrRole)
	inBody(t, "A -> A: m;", "A", api.ErrRole)
	inBody(t, "A -> B, A: m;", "A", api.ErrRole)
	inBody(t, "A -> B, C, B: m;", "B", api.ErrRole)
	inBody(t, "A -> m: m;", "m", api.ErrRole)
	inBody(t, "P -> A: m;", "P", api.ErrRole)
	inBody(t, "A -> B: n;", "n", api.ErrName)
	inBody(t, "A -> B: a;", "a", api.ErrName)
	inBody(t, "A -> B: a.n.x;", "a.n.x", api.ErrName)
	inBody(t, "A -> B: A;", "A", api.ErrName)
	inBody(t, "A -> B: P;", "P", api.ErrName)
	// The roles are ahead of the message, in their order.
	inBody(t, "A -> D: n;", "D", api.ErrRole)
	inBody(t, "A -> B, B, D: n;", "B", api.ErrRole)
	inBody(t, "D -> D, E: n;", "D", api.ErrRole)
	inBody(t, "A -> E, A: n;", "E", api.ErrRole)
	inBody(t, "choice at D { A -> A: m; }", "D", api.ErrRole)
	inBody(t, "choice at A { A -> A: m; } or { D -> A: m; }", "A", api.ErrRole)
	inBody(t, "choice at A within 5 { } else { choice at m { } }", "m", api.ErrRole)
}

// P11.1: loops in loops, and where they begin again.
func TestLoops(t *testing.T) {
	for _, body := range []string{
		"loop L { again L; }", "loop L { } loop L { again L; } loop a.L { again a.L; }", "loop L { loop M { again L; } }", "loop L { loop M { choice at A { again L; } or { again M; } or { A -> B: m; } } }", "par { loop L { again L; } } and { loop L { again L; } }",
		"loop L { par { loop M { again M; } } and { } again L; }", "loop L { A -> B: m; choice at A { choice at B within 5 { } else { again L; } } or { A -> B: m; again L; } }", "loop L { loop M { again M; } again L; }", "loop m { again m; }", "loop A { again A; } loop P { again P; } A -> B: m;", "choice at A { loop L { again L; } A -> B: m; } or { } A -> B: m;",
		"loop L { loop M { again M; } A -> B: m; again L; }", "par { loop L { choice at A { again L; } or { } } A -> B: m; } and { }",
	} {
		inBody(t, body, "", api.OK)
	}
	for _, body := range []string{"loop L { loop L { } }", "loop L { loop M { loop L { again L; } } }", "loop L { par { } and { loop L { } } }", "loop L { choice at A { A -> B: m; } or { loop L { } } A -> D: m; }", "loop L { loop L { again M; } }", "loop L { loop L { } again M; }"} {
		inBody(t, body, "L", api.ErrExist)
	}
	for _, body := range []string{
		"again L;", "loop M { again L; }", "loop L { } again L;", "loop L { again L; } choice at A { again L; }", "loop L { par { again L; } and { } }", "loop L { par { } and { choice at A { again L; } } }", "loop L { par { loop M { again L; } } and { } }", "loop L { loop M { again M; } loop M { again M; } } loop M { again L; }",
		// The name is ahead of the place.
		"again L; A -> B: m;", "loop L { par { again L; A -> B: m; } and { } A -> B: m; }", "par { again L; } and { } loop L { again L; }",
	} {
		inBody(t, body, "L", api.ErrName)
	}
	inBody(t, "loop L { again a.L; }", "a.L", api.ErrName)
	inBody(t, "loop a.L { again L; }", "L", api.ErrName)
	for _, body := range []string{
		"loop L { again L; A -> B: m; }", "loop L { again L; again L; }", "loop L { again L; loop M { } }", "loop L { choice at A { again L; } A -> B: m; }", "loop L { choice at A { again L; A -> B: m; } or { } }", "loop L { choice at A { choice at B { } or { again L; } A -> B: m; } or { } }", "loop L { choice at A { choice at B { } or { again L; } } or { } A -> B: m; }", "loop L { loop M { again L; } again L; }", "loop L { loop M { again L; A -> B: m; } }",
		"loop K { loop L { again L; again K; } }", "loop L { choice at A { again L; } or { } par { } and { } }", "loop L { again L; again M; }",
	} {
		inBody(t, body, "L", api.ErrState)
	}
	// A role in the same block is behind, and one in a block ahead.
	inBody(t, "loop L { again L; A -> D: m; }", "L", api.ErrState)
	inBody(t, "loop L { choice at A { A -> D: m; } or { again L; A -> B: m; } }", "D", api.ErrRole)
}

// P11.1: the names of calls, and of what they call.
func TestCalls(t *testing.T) {
	inBody(t, "call Q(A, B) as x; call Q(C, A) as y; choice at A { call Q(B, A) as A; } or { call Q(A, B) as Q; call Q(A, B) as m; }", "", api.OK)
	inBody(t, "call S(A, B) as x;", "S", api.ErrName)
	inBody(t, "call m(A, B) as x;", "m", api.ErrName)
	inBody(t, "call Q(A) as x;", "Q", api.ErrArg)
	inBody(t, "call Q(A, B, C) as x;", "Q", api.ErrArg)
	inBody(t, "call Q(A, D) as x;", "D", api.ErrRole)
	inBody(t, "call Q(B, B) as x;", "B", api.ErrRole)
	inBody(t, "call Q(A, B) as x; call Q(A, B) as x;", "x", api.ErrExist)
	inBody(t, "choice at A { call Q(A, B) as x; } or { call Q(A, B) as y; call Q(A, C) as x; }", "x", api.ErrExist)
	inBody(t, "par { loop L { call Q(A, B) as x; } } and { } call Q(A, B) as x;", "x", api.ErrExist)
	// The order of the problems of a call.
	inBody(t, "call S(D, D) as x;", "S", api.ErrName)
	inBody(t, "call Q(A, B) as x; call S(D, D) as x;", "S", api.ErrName)
	inBody(t, "call Q(D) as x;", "Q", api.ErrArg)
	inBody(t, "call Q(A, B) as x; call Q(A, E) as x;", "E", api.ErrRole)
	inBody(t, "call Q(D, D) as x;", "D", api.ErrRole)
	inBody(t, "call Q(A, A) as x; call S(A, A) as x;", "A", api.ErrRole)
	// The names of calls are those of one protocol.
	problem(t, "protocol P(A) { call R(A) as x; } protocol Q(A) { call R(A) as x; } protocol R(A) { }", "", "", api.OK)
	// The first protocol with a name counts.
	problem(t, "protocol P(A) { call Q(A) as x; } protocol Q(A) { } protocol Q(A, B) { }", "Q", "Q", api.ErrExist)
	problem(t, "protocol P(A) { call Q(A) as x; } protocol Q(A, B) { } protocol Q(A) { }", "P", "Q", api.ErrArg)
	problem(t, "protocol P(A) { call Q(A) as x; } protocol Q(A) { } protocol Q(A) { call P(A) as x; }", "Q", "Q", api.ErrExist)
	problem(t, "protocol P(A) { call Q(A) as x; } protocol Q(A) { call P(A) as x; } protocol Q(A) { }", "P", "P", api.ErrLimit)
}

// chain returns protocols, each of which calls the next one.
func chain(l ...string) string {
	var b strings.Builder
	for i, name := range l[:len(l)-1] {
		b.WriteString("protocol " + name + "(A) { loop L { choice at A { } or { call " + l[i+1] + "(A) as x; } } } ")
	}
	return b.String()
}

// P11.1: chains of calls.
func TestChainsOfCalls(t *testing.T) {
	last := func(name string) string { return "protocol " + name + "(A) { } " }
	problem(t, chain("P", "Q", "R", "S", "T")+last("T"), "", "", api.OK)
	problem(t, chain("P", "Q", "R", "S", "T", "U")+last("U"), "P", "P", api.ErrLimit)
	problem(t, last("U")+chain("P", "Q", "R", "S", "T", "U"), "P", "P", api.ErrLimit)
	problem(t, chain("T", "U")+last("U")+chain("O", "P", "Q", "R", "S", "T"), "O", "O", api.ErrLimit)
	problem(t, chain("S", "T", "U")+last("U")+chain("O", "P", "Q", "R", "S"), "O", "O", api.ErrLimit)
	// A call of a protocol that does not exist counts, too, and in its own protocol comes ahead.
	problem(t, chain("P", "Q", "R", "S", "T", "U"), "P", "P", api.ErrLimit)
	problem(t, chain("P", "Q", "R", "S", "T"), "S", "T", api.ErrName)
	problem(t, chain("T", "U")+chain("P", "Q", "R", "S", "T"), "T", "U", api.ErrName)
	problem(t, chain("P", "Q"), "P", "Q", api.ErrName)
	// Chains to where they begin, or to a cycle.
	problem(t, chain("P", "P"), "P", "P", api.ErrLimit)
	problem(t, chain("P", "Q", "P"), "P", "P", api.ErrLimit)
	problem(t, chain("P", "Q", "R", "S", "P"), "P", "P", api.ErrLimit)
	problem(t, chain("P", "Q", "R", "S", "T", "U", "V", "P"), "P", "P", api.ErrLimit)
	problem(t, chain("P", "Q", "Q"), "P", "P", api.ErrLimit)
	problem(t, last("O")+chain("P", "O")+chain("Q", "R", "Q"), "Q", "Q", api.ErrLimit)
	// The items are ahead of the chains, but those of later protocols are not.
	problem(t, "protocol P(A) { call P(A) as x; A -> A: m; }", "P", "A", api.ErrRole)
	problem(t, "protocol P(A) { call Q(A) as x; } protocol Q(A) { call P(A) as x; A -> A: m; }", "P", "P", api.ErrLimit)
	problem(t, "protocol P(A) { call P(A) as x; } protocol P(A) { }", "P", "P", api.ErrLimit)
	problem(t, "protocol P(A) { } protocol P(A, A) { call P(A, A) as x; }", "P", "P", api.ErrExist)
}

// P11.1: the roles that take part, of each kind of items, and in blocks.
func TestTakes(t *testing.T) {
	body := parsed(t, "protocol P(A, B) { choice at A { A -> B, C: m; } or { loop D { par { E -> F: G; } and { call H(I, J) as K; } } again M; } }")[0].Body
	all := []string{"M", "K", "J", "I", "H", "G", "F", "E", "D", "C", "B", "A", "P", "m"}
	if got := names.Takes(all, body); !slices.Equal(got, []string{"J", "I", "F", "E", "C", "B", "A"}) {
		t.Error(got)
	}
	for _, roles := range [][]string{nil, {}, {"D"}, {"A"}, {"B", "A", "B"}, {"A", "A", "A", "M", "A"}, {"", "C", ""}} {
		takes(t, roles, body)
		takes(t, roles, nil)
		takes(t, roles, []syntax.Item{{}, {Kind: syntax.Send, Blocks: [][]syntax.Item{nil, body}}})
		takes(t, roles, []syntax.Item{{Kind: 7, Blocks: [][]syntax.Item{body, nil, body}}})
	}
	// Only the fields that a kind has count, and any text may be a role.
	x := syntax.Item{From: "from", To: []string{"to", ""}, Name: "name", As: "as"}
	for kind, want := range map[int]string{-1: "", 0: "", syntax.Send: "to,from,,to", syntax.Choice: "from", syntax.Loop: "", syntax.Again: "", syntax.Par: "", syntax.Call: "to,,to", 7: ""} {
		x.Kind = kind
		if got := names.Takes([]string{"as", "to", "from", "name", "", "to"}, []syntax.Item{x}); strings.Join(got, ",") != want {
			t.Errorf("kind %d: %q", kind, got)
		}
	}
}
