package syntax_test

import (
	"strings"
	"testing"

	"farandole/api"
	"farandole/syntax"
)

// reads tests that a source has the given protocols.
func reads(t *testing.T, s string, want ...syntax.Protocol) {
	t.Helper()
	l, at, e := syntax.Parse(s)
	if e != api.OK || at != 0 || dump(l) != dump(want) {
		t.Errorf("%.2000q: %v at %d, got %.2000s, want %.2000s", s, e, at, dump(l), dump(want))
	}
}

// compare tests Parse by the model.
func compare(t *testing.T, r rules, s string) {
	t.Helper()
	canonical, at, e := r.model(s)
	l, gotAt, gotE := syntax.Parse(s)
	if gotE != e || gotAt != at {
		t.Fatalf("%.2000q: got %v at %d, want %v at %d", s, gotE, gotAt, e, at)
	}
	if e != api.OK {
		if len(l) != 0 {
			t.Fatalf("%.2000q: protocols with %v", s, e)
		}
		return
	}
	if got, e := syntax.Print(l); e != api.OK || got != canonical || !syntax.Valid(l) {
		t.Fatalf("%.2000q: got %v with %.2000q, want %.2000q", s, e, got, canonical)
	}
}

// P10.1: the example of the chapter.
func TestExample(t *testing.T) {
	reads(t, "protocol P(A,B){message m(x:int 1..5)where x<n.y+1;A->B:m;}", syntax.Protocol{
		Name:  "P",
		Roles: []string{"A", "B"},
		Messages: []syntax.Message{{
			Name:   "m",
			Fields: []api.Field{{Name: "x", Sort: api.Sort{Kind: api.SortInt, Lo: 1, Hi: 5}}},
			Where:  []syntax.Atom{{Left: syntax.Term{Kind: syntax.Ref, Field: "x"}, Op: "<", Right: syntax.Term{Kind: syntax.Ref, Message: "n", Field: "y", N: 1}}},
		}},
		Body: []syntax.Item{send("m")},
	})
}

// P10.1: the kinds and the limits have the numbers of the chapter.
func TestNumbers(t *testing.T) {
	if syntax.Const != 1 || syntax.Ref != 2 || syntax.Len != 3 {
		t.Error("the kinds of terms are not 1 to 3")
	}
	if syntax.Send != 1 || syntax.Choice != 2 || syntax.Loop != 3 || syntax.Again != 4 || syntax.Par != 5 || syntax.Call != 6 {
		t.Error("the kinds of items are not 1 to 6")
	}
	if syntax.MaxProtocols != 10 || syntax.MaxAtoms != 6 || syntax.MaxBlocks != 8 || syntax.MaxDepth != 10 || syntax.MaxItems != 300 || syntax.MaxConst != 999999 {
		t.Error("the limits are not those of the chapter")
	}
}

// P10.1: sources without protocols, and with protocols that have nothing in them.
func TestEmptySources(t *testing.T) {
	for _, s := range []string{"", " ", "\n\t\r\n", "//", "// protocol P(A) {\n"} {
		reads(t, s)
	}
	reads(t, "protocol P(A){}", syntax.Protocol{Name: "P", Roles: []string{"A"}})
	reads(t, "protocol P(A){}protocol P(A){}", syntax.Protocol{Name: "P", Roles: []string{"A"}}, syntax.Protocol{Name: "P", Roles: []string{"A"}})
	reads(t, "protocol P(A,A,B_1){}protocol Q(P){}", syntax.Protocol{Name: "P", Roles: []string{"A", "A", "B_1"}}, syntax.Protocol{Name: "Q", Roles: []string{"P"}})
}

// P10.1: the sorts of fields.
func TestFields(t *testing.T) {
	for s, want := range map[string]api.Sort{
		"int 0..0": {Kind: 1}, "int 1..5": {Kind: 1, Lo: 1, Hi: 5}, "int -5..5": {Kind: 1, Lo: -5, Hi: 5}, "int -5..-1": {Kind: 1, Lo: -5, Hi: -1}, "int 5..-5": {Kind: 1, Lo: 5, Hi: -5}, "int - 7 .. - 3": {Kind: 1, Lo: -7, Hi: -3}, "int -0..-0": {Kind: 1},
		"int -999999..999999": {Kind: 1, Lo: -999999, Hi: 999999}, "text 0..40": {Kind: 2, Hi: 40}, "text 9..2": {Kind: 2, Lo: 9, Hi: 2}, "text 999999..999999": {Kind: 2, Lo: 999999, Hi: 999999}, "text 0 ..0": {Kind: 2},
	} {
		x, y := api.Field{Name: "x", Sort: want}, api.Field{Name: "y", Sort: want}
		reads(t, "protocol P(A,B){message m(x:"+s+");}", withMessages(syntax.Message{Name: "m", Fields: []api.Field{x}})...)
		reads(t, "protocol P(A,B){message m(x:"+s+",y:"+s+");message n.k();}", withMessages(syntax.Message{Name: "m", Fields: []api.Field{x, y}}, syntax.Message{Name: "n.k"})...)
	}
}

// P10.1: terms, on both sides of all marks.
func TestTerms(t *testing.T) {
	long := strings.Repeat("abcdefghi.", 4) + "abcdefghij"
	for s, want := range map[string]syntax.Term{
		"0": {Kind: syntax.Const}, "-0": {Kind: syntax.Const}, "7": {Kind: syntax.Const, N: 7}, "-7": {Kind: syntax.Const, N: -7}, "- 999999": {Kind: syntax.Const, N: -999999},
		"x": {Kind: syntax.Ref, Field: "x"}, "m.x": {Kind: syntax.Ref, Message: "m", Field: "x"}, "c.d.m.x": {Kind: syntax.Ref, Message: "c.d.m", Field: "x"}, "x+1": {Kind: syntax.Ref, Field: "x", N: 1}, "x-1": {Kind: syntax.Ref, Field: "x", N: -1}, "x + 0": {Kind: syntax.Ref, Field: "x"}, "x - 0": {Kind: syntax.Ref, Field: "x"}, "m . x+999999": {Kind: syntax.Ref, Message: "m", Field: "x", N: 999999},
		"len(x)": {Kind: syntax.Len, Field: "x"}, "len(m.x)": {Kind: syntax.Len, Message: "m", Field: "x"}, "len ( c.m.x ) - 40": {Kind: syntax.Len, Message: "c.m", Field: "x", N: -40}, "len(x)+0": {Kind: syntax.Len, Field: "x"},
		long + ".x": {Kind: syntax.Ref, Message: long, Field: "x"}, "len(" + long + ".abcdefghijklmnop)-1": {Kind: syntax.Len, Message: long, Field: "abcdefghijklmnop", N: -1},
	} {
		zero := syntax.Term{Kind: syntax.Const}
		for _, op := range []string{"<", "<=", "==", ">=", ">"} {
			reads(t, "protocol P(A,B){message m()where "+s+" "+op+" 0;}", withAtoms(syntax.Atom{Left: want, Op: op, Right: zero})...)
			reads(t, "protocol P(A,B){message m()where 0"+op+s+";}", withAtoms(syntax.Atom{Left: zero, Op: op, Right: want})...)
			reads(t, "protocol P(A,B){message m()where 0"+op+s+" and "+s+op+s+";}", withAtoms(syntax.Atom{Left: zero, Op: op, Right: want}, syntax.Atom{Left: want, Op: op, Right: want})...)
		}
	}
}

// P10.1: items of all kinds.
func TestItems(t *testing.T) {
	m, n := send("m"), send("n")
	for s, want := range map[string]syntax.Item{
		"A->B:m;": m, "A->B,C,A:c.m;": {Kind: syntax.Send, From: "A", To: []string{"B", "C", "A"}, Name: "c.m"},
		"again L;": {Kind: syntax.Again, Name: "L"}, "again a.b.L;": {Kind: syntax.Again, Name: "a.b.L"},
		"call Q(A)as x;": {Kind: syntax.Call, To: []string{"A"}, Name: "Q", As: "x"}, "call Q(A,B,C)as y;": {Kind: syntax.Call, To: []string{"A", "B", "C"}, Name: "Q", As: "y"},
		"loop L{}": loop(), "loop L{A->B:m;A->B:n;}": loop(m, n), "loop L{loop L{}}": loop(loop()), "loop x.y{A->B:m;}": {Kind: syntax.Loop, Name: "x.y", Blocks: [][]syntax.Item{{m}}},
		"choice at A{}": choice(0, nil), "choice at A{A->B:m;}": choice(0, []syntax.Item{m}), "choice at A{}or{}": choice(0, nil, nil), "choice at A{A->B:m;}or{A->B:n;}or{}": choice(0, []syntax.Item{m}, []syntax.Item{n}, nil),
		"choice at A within 1{}else{}": choice(1, nil, nil), "choice at A within 1000{}or{A->B:m;}else{A->B:n;}": choice(1000, nil, []syntax.Item{m}, []syntax.Item{n}),
		"par{}and{}": par(nil, nil), "par{A->B:m;}and{A->B:n;}and{}": par([]syntax.Item{m}, []syntax.Item{n}, nil), "par{par{}and{}}and{choice at A{}}": par([]syntax.Item{par(nil, nil)}, []syntax.Item{choice(0, nil)}),
	} {
		reads(t, "protocol P(A,B){"+s+"}", withItems(want)...)
		reads(t, "protocol P(A,B){"+s+s+"}", withItems(want, want)...)
		reads(t, "protocol P(A,B){A->B:m;"+s+"loop L{"+s+"}}", withItems(m, want, loop(want))...)
		reads(t, "protocol P(A,B){choice at A within 1{"+s+"}or{"+s+s+"}else{"+s+"}}", withItems(choice(1, []syntax.Item{want}, []syntax.Item{want, want}, []syntax.Item{want}))...)
		reads(t, "protocol P(A,B){par{"+s+"}and{"+s+"}"+s+"}", withItems(par([]syntax.Item{want}, []syntax.Item{want}), want)...)
	}
}

// P10.1: the numbers behind within.
func TestTicks(t *testing.T) {
	r := grammarRules()
	for _, n := range []string{"1", "2", "999", "1000", "0", "1001", "1002", "65537", "999999", "00", "01", "-1", "x", "\"1\"", "{", ""} {
		for _, behind := range []string{"{}else{}}", "{}or{}else{}}", "{}}", "{}", "", "else", "5{}else{}}", "{}else{}or{}}"} {
			compare(t, r, "protocol P(A){choice at A within "+n+behind)
			compare(t, r, "protocol P(A){choice at A within "+n+" "+behind)
		}
	}
	if l, at, e := syntax.Parse("protocol P(A){choice at A within 0{}else{}}"); l != nil || at != 33 || e != api.ErrRange {
		t.Errorf("within 0: %v at %d", e, at)
	}
	if l, at, e := syntax.Parse("protocol P(A){choice at A within 1001 ?"); l != nil || at != 38 || e != api.ErrSyntax {
		t.Errorf("within 1001 ahead of what is no token: %v at %d", e, at)
	}
}

// P10.1: IsPath reports whether a string is a path.
func TestIsPath(t *testing.T) {
	long := strings.Repeat("abcdefghi.", 4)
	for _, s := range []string{"a", "A", "a.b", "a.b.c", "m1.x_", "a.a.a.a.a.a.a.a", "loops", "loops.m", "abcdefghijklmnop", "abcdefghijklmnop.abcdefghijklmnop", long + "abcdefghij", long + "a.abcdefgh", strings.Repeat("a.", 24) + "ab"} {
		if !syntax.IsPath(s) || !isPath(s) {
			t.Errorf("%.2000q is no path", s)
		}
	}
	for _, s := range []string{"", ".", "..", "a.", ".a", "a..b", "a.b.", "1", "a.1", "_a", "a._b", "loop", "a.loop", "loop.a", "a.len.b", "a b", " a", "a ", "a. b", "a .b", "a\n", "a-b", "a:b", "a\x00", "é", "a.é", "abcdefghijklmnopq", "a.abcdefghijklmnopq", long + "abcdefghijk", long + "ab.abcdefgh", strings.Repeat("a.", 25) + "a", strings.Repeat("a", 51), strings.Repeat("a.", 1000000) + "a", "//", "a//b"} {
		if syntax.IsPath(s) || isPath(s) {
			t.Errorf("%.100q is a path", s)
		}
	}
	for _, s := range keywords() {
		for _, path := range []string{s, s + ".a", "a." + s, "a." + s + ".b"} {
			if syntax.IsPath(path) || !syntax.IsPath("x"+path+"x") && len(path) == len(s) {
				t.Errorf("%.2000q", path)
			}
		}
	}
}

// P10.1: IsPath, for all strings of a few bytes.
func TestShortPaths(t *testing.T) {
	var each func(s string, n int)
	each = func(s string, n int) {
		if syntax.IsPath(s) != isPath(s) {
			t.Fatalf("%.2000q", s)
		}
		for _, c := range "aZ9_. ifo" {
			if n > 0 {
				each(s+string(c), n-1)
			}
		}
	}
	each("", 5)
	for a := range 256 {
		for b := range 256 {
			s := string([]byte{byte(a), byte(b)})
			for _, s := range []string{s[:1], s, "a" + s, s + "a", "a." + s} {
				if syntax.IsPath(s) != isPath(s) {
					t.Fatalf("%.2000q", s)
				}
			}
		}
	}
}

// samples are sources of protocols of other chapters, and one with everything.
func samples() []string {
	return []string{
		"protocol Order(buyer, seller) {\n\tmessage request(count: int 1 .. 50, item: text 1 .. 8);\n\tmessage accept(price: int 0 .. 500) where price >= request.count;\n\tmessage refuse();\n\tmessage pay(amount: int 0 .. 500, item: text 1 .. 8) where amount == accept.price and item == request.item;\n\tbuyer -> seller: request;\n\tchoice at seller {\n\t\tseller -> buyer: accept;\n\t\tbuyer -> seller: pay;\n\t} or {\n\t\tseller -> buyer: refuse;\n\t}\n}\n",
		"protocol Ping(a, b) { message ping(n: int 0 .. 9); message bye(); loop again_ping { choice at a { a -> b: ping; again again_ping; } or { a -> b: bye; } } }",
		"protocol Auction(host, left, right) { message start(price: int 1 .. 100); host -> left, right: start; choice at left within 30 { left -> host: bid; } else { left -> host: pass; } }",
		"protocol Quote(asker, giver) { message ask(item: text 1 .. 6); asker -> giver: ask; } protocol Compare(client, one, two) { call Quote(client, one) as first; call Quote(client, two) as second; }",
		"protocol Pairs(a, b, c, d) { par { a -> b: hello; b -> a: reply; } and { c -> d: note; } d -> a: note; }",
		"protocol All(A,B,C){message a.b(x:int -5..-1,y:text 0..40)where -3<=x and len(y)-1==len(c.a.b.y)+2 and a.b.x>4;message e();A->B,C:a.b;choice at A within 20{again x.L;}or{par{}and{}and{}}else{}choice at B{}or{loop L{call Q(A,B)as q;}}}protocol Q(D){}",
	}
}

// P10.1: sources of samples, and everything that random valid protocols lead to.
func TestSources(t *testing.T) {
	r := grammarRules()
	for _, s := range samples() {
		compare(t, r, s)
		if l, _, e := syntax.Parse(s); e != api.OK || len(l) == 0 {
			t.Errorf("%.2000q: %v", s, e)
		}
	}
	for _, l := range someProtocols(101, 1000) {
		s := strings.Join(tokensOf(l), " ")
		if len(s) <= 8000 {
			reads(t, s, l...)
			compare(t, r, s)
		}
	}
}
