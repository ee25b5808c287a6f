package syntax_test

import (
	"testing"

	"farandole/api"
	"farandole/syntax"
)

// prints tests that protocols have a canonical source.
func prints(t *testing.T, l []syntax.Protocol, want string) {
	t.Helper()
	if got, e := syntax.Print(l); e != api.OK || got != want {
		t.Errorf("%v with %.2000q, want %.2000q", e, got, want)
	}
}

// around returns the canonical source of a protocol with lines in its body, or with messages.
func around(lines string) string { return "protocol P(A, B) {\n" + lines + "}\n" }

// P10.1: the examples of the chapter.
func TestPrintedExamples(t *testing.T) {
	quote := syntax.Item{Kind: syntax.Send, From: "A", To: []string{"B", "C"}, Name: "p.quote"}
	again := syntax.Item{Kind: syntax.Again, Name: "L"}
	prints(t, withItems(choice(20, []syntax.Item{quote}, []syntax.Item{again}, nil)), around("\tchoice at A within 20 {\n\t\tA -> B, C: p.quote;\n\t} or {\n\t\tagain L;\n\t} else {\n\t}\n"))
	l, _, _ := syntax.Parse("protocol P(A,B){message m(x:int 1..5)where x<n.y+1;A->B:m;}")
	prints(t, l, around("\tmessage m(x: int 1..5) where x < n.y + 1;\n\tA -> B: m;\n"))
}

// P10.1: the lines of protocols.
func TestPrintedProtocols(t *testing.T) {
	prints(t, nil, "")
	prints(t, []syntax.Protocol{}, "")
	prints(t, []syntax.Protocol{{Name: "P", Roles: []string{"A"}}}, "protocol P(A) {\n}\n")
	prints(t, []syntax.Protocol{{Name: "P", Roles: []string{"A"}}, {Name: "Q", Roles: []string{"A", "B", "C"}, Messages: []syntax.Message{{Name: "m"}, {Name: "a.b"}}, Body: []syntax.Item{send("m"), send("x")}}, {Name: "P", Roles: []string{"A"}}},
		"protocol P(A) {\n}\nprotocol Q(A, B, C) {\n\tmessage m();\n\tmessage a.b();\n\tA -> B: m;\n\tA -> B: x;\n}\nprotocol P(A) {\n}\n")
}

// P10.1: the lines of messages.
func TestPrintedMessages(t *testing.T) {
	for want, fields := range map[string][]api.Field{
		"": nil, "x: int 1..5": {{Name: "x", Sort: api.Sort{Kind: 1, Lo: 1, Hi: 5}}}, "x: int -999999..-1": {{Name: "x", Sort: api.Sort{Kind: 1, Lo: -999999, Hi: -1}}}, "y: text 0..40": {{Name: "y", Sort: api.Sort{Kind: 2, Hi: 40}}},
		"x: int 5..-5, y: text 999999..0": {{Name: "x", Sort: api.Sort{Kind: 1, Lo: 5, Hi: -5}}, {Name: "y", Sort: api.Sort{Kind: 2, Lo: 999999}}},
	} {
		prints(t, withMessages(syntax.Message{Name: "m", Fields: fields}), around("\tmessage m("+want+");\n"))
		prints(t, withMessages(syntax.Message{Name: "a.m", Fields: fields}, syntax.Message{Name: "n"}), around("\tmessage a.m("+want+");\n\tmessage n();\n"))
	}
	for want, term := range map[string]syntax.Term{
		"0": {Kind: syntax.Const}, "7": {Kind: syntax.Const, N: 7}, "-7": {Kind: syntax.Const, N: -7}, "999999": {Kind: syntax.Const, N: 999999}, "-999999": {Kind: syntax.Const, N: -999999},
		"x": {Kind: syntax.Ref, Field: "x"}, "m.x": {Kind: syntax.Ref, Message: "m", Field: "x"}, "c.m.x + 1": {Kind: syntax.Ref, Message: "c.m", Field: "x", N: 1}, "x - 999999": {Kind: syntax.Ref, Field: "x", N: -999999},
		"len(x)": {Kind: syntax.Len, Field: "x"}, "len(m.x)": {Kind: syntax.Len, Message: "m", Field: "x"}, "len(x) + 999999": {Kind: syntax.Len, Field: "x", N: 999999}, "len(c.m.x) - 1": {Kind: syntax.Len, Message: "c.m", Field: "x", N: -1},
	} {
		for _, op := range []string{"<", "<=", "==", ">=", ">"} {
			a := syntax.Atom{Left: term, Op: op, Right: term}
			prints(t, withAtoms(a), around("\tmessage m() where "+want+" "+op+" "+want+";\n"))
			prints(t, withAtoms(a, a, a), around("\tmessage m() where "+want+" "+op+" "+want+" and "+want+" "+op+" "+want+" and "+want+" "+op+" "+want+";\n"))
		}
	}
}

// P10.1: the lines of items, at all depths.
func TestPrintedItems(t *testing.T) {
	m, n := send("m"), send("n")
	prints(t, withItems(m, n), around("\tA -> B: m;\n\tA -> B: n;\n"))
	prints(t, withItems(syntax.Item{Kind: syntax.Send, From: "A", To: []string{"B", "C", "A"}, Name: "c.m"}), around("\tA -> B, C, A: c.m;\n"))
	prints(t, withItems(syntax.Item{Kind: syntax.Again, Name: "x.L"}), around("\tagain x.L;\n"))
	prints(t, withItems(syntax.Item{Kind: syntax.Call, To: []string{"A"}, Name: "Q", As: "x"}), around("\tcall Q(A) as x;\n"))
	prints(t, withItems(syntax.Item{Kind: syntax.Call, To: []string{"A", "B", "C"}, Name: "Q", As: "x"}), around("\tcall Q(A, B, C) as x;\n"))
	prints(t, withItems(loop()), around("\tloop L {\n\t}\n"))
	prints(t, withItems(loop(m, loop(n), n), m), around("\tloop L {\n\t\tA -> B: m;\n\t\tloop L {\n\t\t\tA -> B: n;\n\t\t}\n\t\tA -> B: n;\n\t}\n\tA -> B: m;\n"))
	prints(t, withItems(choice(0, nil)), around("\tchoice at A {\n\t}\n"))
	prints(t, withItems(choice(0, []syntax.Item{m}, nil, []syntax.Item{n})), around("\tchoice at A {\n\t\tA -> B: m;\n\t} or {\n\t} or {\n\t\tA -> B: n;\n\t}\n"))
	prints(t, withItems(choice(1000, nil, []syntax.Item{m})), around("\tchoice at A within 1000 {\n\t} else {\n\t\tA -> B: m;\n\t}\n"))
	prints(t, withItems(par(nil, nil)), around("\tpar {\n\t} and {\n\t}\n"))
	prints(t, withItems(par([]syntax.Item{par([]syntax.Item{m}, nil)}, []syntax.Item{n, n}, nil)), around("\tpar {\n\t\tpar {\n\t\t\tA -> B: m;\n\t\t} and {\n\t\t}\n\t} and {\n\t\tA -> B: n;\n\t\tA -> B: n;\n\t} and {\n\t}\n"))
	prints(t, withItems(choice(1, []syntax.Item{choice(0, nil, nil)}, []syntax.Item{choice(2, nil, nil)})), around("\tchoice at A within 1 {\n\t\tchoice at A {\n\t\t} or {\n\t\t}\n\t} else {\n\t\tchoice at A within 2 {\n\t\t} else {\n\t\t}\n\t}\n"))
	prints(t, withItems(deep(10)), around("\tloop L {\n\t\tloop L {\n\t\t\tloop L {\n\t\t\t\tloop L {\n\t\t\t\t\tloop L {\n\t\t\t\t\t\tloop L {\n\t\t\t\t\t\t\tloop L {\n\t\t\t\t\t\t\t\tloop L {\n\t\t\t\t\t\t\t\t\tloop L {\n\t\t\t\t\t\t\t\t\t\tloop L {\n\t\t\t\t\t\t\t\t\t\t}\n\t\t\t\t\t\t\t\t\t}\n\t\t\t\t\t\t\t\t}\n\t\t\t\t\t\t\t}\n\t\t\t\t\t\t}\n\t\t\t\t\t}\n\t\t\t\t}\n\t\t\t}\n\t\t}\n\t}\n"))
}

// deep returns a loop of a depth.
func deep(depth int) syntax.Item {
	if depth == 1 {
		return loop()
	}
	return loop(deep(depth - 1))
}

// P10.1: the canonical sources of random valid protocols.
func TestPrinted(t *testing.T) {
	for _, l := range someProtocols(104, 1500) {
		judges(t, l, true)
		if !validity(l) {
			t.Fatalf("the model does not accept %.2000s", dump(l))
		}
	}
}
