package lex_test

import (
	"math/rand"
	"strconv"
	"strings"
	"testing"

	"farandole/api"
	"farandole/lex"
)

// reads tests that a source has the given tokens.
func reads(t *testing.T, s string, want ...lex.Token) {
	t.Helper()
	if got := tokens(s); !got.equal(result{l: want}) {
		t.Errorf("%q: got %v, want %v", s, got, want)
	}
}

func name(text string, from int) lex.Token { return lex.Token{Kind: lex.Name, Text: text, From: from} }

func number(value, from int) lex.Token {
	return lex.Token{Kind: lex.Number, Value: value, From: from}
}

func text(s string, from int) lex.Token { return lex.Token{Kind: lex.Text, Text: s, From: from} }

func mark(s string, from int) lex.Token { return lex.Token{Kind: lex.Mark, Text: s, From: from} }

// P9.1: the examples of the chapter, and the kinds.
func TestExamples(t *testing.T) {
	reads(t, "a1->b:x // y", name("a1", 0), mark("->", 2), name("b", 4), mark(":", 5), name("x", 6))
	reads(t, "1..2", number(1, 0), mark("..", 1), number(2, 3))
	if lex.Name != 1 || lex.Number != 2 || lex.Text != 3 || lex.Mark != 4 {
		t.Error("the kinds are not 1 to 4")
	}
}

// P9.1: sources without tokens.
func TestNoTokens(t *testing.T) {
	for _, s := range []string{"", " ", "\t", "\n", "\r", " \t\r\n \n", "//", "//\n", "///", "// a", " //a\n\t//\"\r", "// é\xff\x00 ?&|", "//\n//\n//", strings.Repeat(" ", 8000), "//" + strings.Repeat("?", 7998)} {
		reads(t, s)
	}
}

// P9.1: blanks and comments between tokens, ahead of them and behind them.
func TestBlanks(t *testing.T) {
	for _, blank := range []string{" ", "\t", "\n", "\r", "\r\n", "   ", " \t\n\r", "//\n", "// b\n", "//b//\n", "///\n", " //\"\n ", "//\r?\n", "// é\xff\x00\n", "//\n//\n", "\n// a\n\t// b\n"} {
		n := len(blank)
		reads(t, blank+"a", name("a", n))
		reads(t, "a"+blank, name("a", 0))
		reads(t, "a"+blank+"b", name("a", 0), name("b", 1+n))
		reads(t, "1"+blank+"2", number(1, 0), number(2, 1+n))
		reads(t, "1"+blank+"a", number(1, 0), name("a", 1+n))
		reads(t, "-"+blank+">", mark("-", 0), mark(">", 1+n))
		reads(t, "="+blank+"/", mark("=", 0), mark("/", 1+n))
		reads(t, `""`+blank+`" "`, text("", 0), text(" ", 2+n))
	}
	reads(t, "a/ /b", name("a", 0), mark("/", 1), mark("/", 3), name("b", 4))
	reads(t, "a///b", name("a", 0))
	reads(t, "a*//b\n/", name("a", 0), mark("*", 1), mark("/", 6))
	reads(t, "a//b\rc", name("a", 0))
	reads(t, `"//"a//"`, text("//", 0), name("a", 4))
}

// P9.1: a Name is as long as possible, has at most 16 bytes, and may be a keyword.
func TestNames(t *testing.T) {
	for _, s := range append(keywords(), "a", "z", "A", "Z", "a_", "a0", "a9", "B_9_z", "a__", "Loop", "loops", "loop_", "z123456789012345", "abcdefghijklmnop", "A_______________") {
		reads(t, s, name(s, 0))
		reads(t, s+"-"+s+`"a"`, name(s, 0), mark("-", len(s)), name(s, len(s)+1), text("a", 2*len(s)+1))
		reads(t, "("+s+")", mark("(", 0), name(s, 1), mark(")", 1+len(s)))
	}
	for i := range len(letters) {
		c := letters[i : i+1]
		reads(t, c, name(c, 0))
	}
	for i := range len(parts) {
		c := "a" + parts[i:i+1]
		reads(t, c, name(c, 0))
	}
}

// P9.1: a Number has at most 6 digits, and no 0 in front of others.
func TestNumbers(t *testing.T) {
	for _, n := range []int{0, 1, 9, 10, 90, 99, 100, 999, 1000, 8000, 10000, 12345, 65536, 99999, 100000, 123456, 987654, 999999} {
		s := strconv.Itoa(n)
		reads(t, s, number(n, 0))
		reads(t, s+"."+s, number(n, 0), mark(".", len(s)), number(n, len(s)+1))
		reads(t, s+`"a"`+s, number(n, 0), text("a", len(s)), number(n, len(s)+3))
		reads(t, "-"+s, mark("-", 0), number(n, 1))
		reads(t, "a "+s, name("a", 0), number(n, 2))
	}
	reads(t, "0 0", number(0, 0), number(0, 2))
	for n := range 1000 {
		reads(t, strconv.Itoa(n), number(n, 0))
		reads(t, strconv.Itoa(1001*n), number(1001*n, 0))
	}
}

// P9.1: a Text has the bytes that its elements stand for, at most 40.
func TestTexts(t *testing.T) {
	for s, want := range map[string]string{
		`""`: "", `" "`: " ", `"a"`: "a", `"~"`: "~", `"\""`: `"`, `"\\"`: `\`, `"\\\\"`: `\\`, `"\\\""`: `\"`, `"\"\\"`: `"\`, `"\\n"`: `\n`, `"a\"b\\c"`: `a"b\c`, `"// a"`: "// a", `"0"`: "0", `"loop"`: "loop", `"->"`: "->",
	} {
		reads(t, s, text(want, 0))
		reads(t, s+s, text(want, 0), text(want, len(s)))
		reads(t, "a"+s+"b", name("a", 0), text(want, 1), name("b", 1+len(s)))
		reads(t, "1"+s+"2", number(1, 0), text(want, 1), number(2, 1+len(s)))
	}
	for n := range 41 {
		reads(t, `"`+strings.Repeat("x", n)+`"`, text(strings.Repeat("x", n), 0))
		reads(t, `"`+strings.Repeat(`\\`, n)+`"`, text(strings.Repeat(`\`, n), 0))
		reads(t, `"`+strings.Repeat(`\"`, n)+`"`, text(strings.Repeat(`"`, n), 0))
	}
}

// P9.1: a Mark is as long as possible, whatever stands behind it.
func TestMarks(t *testing.T) {
	for _, s := range marks() {
		reads(t, s, mark(s, 0))
		reads(t, " "+s+"\n", mark(s, 1))
		reads(t, "a"+s+"b", name("a", 0), mark(s, 1), name("b", 1+len(s)))
		reads(t, "1"+s+"2", number(1, 0), mark(s, 1), number(2, 1+len(s)))
		reads(t, `""`+s+`""`, text("", 0), mark(s, 2), text("", 2+len(s)))
	}
	for s, want := range map[string]string{
		"...": ".. .", "....": ".. ..", "-->": "- ->", "->>": "-> >", "->=": "-> =", "->->": "-> ->", "-=>": "- = >", "<==": "<= =", "<=>": "<= >", "=<=": "= <=", ">==": ">= =", ">>=": "> >=",
		"===": "== =", "====": "== ==", "=>": "= >", "=!=": "= !=", "!==": "!= =", "!!=": "! !=", "!===": "!= ==", "<>": "< >", "<-": "< -", "><": "> <", "=<": "= <", "=!": "= !", "&&&&": "&& &&", "||||": "|| ||", "*/": "* /", "/*": "/ *", "((": "( (", "::": ": :", "++": "+ +", "--": "- -", "<<": "< <", "{}": "{ }", ".->": ". ->", "-..": "- ..",
	} {
		var l []lex.Token
		from := 0
		for _, m := range strings.Fields(want) {
			l = append(l, mark(m, from))
			from += len(m)
		}
		reads(t, s, l...)
	}
}

// P9.1: all sources of up to two bytes.
func TestShortSources(t *testing.T) {
	all := kinds()
	compare(t, all, "")
	for a := range 256 {
		compare(t, all, string([]byte{byte(a)}))
		for b := range 256 {
			compare(t, all, string([]byte{byte(a), byte(b)}))
		}
	}
}

// eachOf calls a function for all strings of n of the given parts.
func eachOf(parts []string, n int, call func(s string)) {
	if n == 0 {
		call("")
		return
	}
	for _, part := range parts {
		eachOf(parts, n-1, func(s string) { call(part + s) })
	}
}

// P9.1: all sources of a few bytes of which each plays another part.
func TestMixedSources(t *testing.T) {
	all := kinds()
	for n, l := range map[int]string{3: "az09_\"\\ \t\n/->.<=!&|:;é\x7f", 5: "a0_\"\\ /\n-", 6: "\"\\a\n", 7: "/\n\"", 8: "0a"} {
		eachOf(strings.Split(l, ""), n, func(s string) { compare(t, all, s) })
	}
	eachOf(strings.Split("->.<=!&|/:", ""), 4, func(s string) { compare(t, all, s) })
}

// P9.1: random sources, right ones and wrong ones.
func TestRandomSources(t *testing.T) {
	random := rand.New(rand.NewSource(91))
	all := kinds()
	right := 0
	for i := range 20000 {
		s := someSource(random, random.Intn(20), i%4*10)
		compare(t, all, s)
		if _, _, e := lex.Tokens(s); e == api.OK {
			right++
		}
		compare(t, all, of(random, anything+" \n", random.Intn(12)))
		compare(t, all, of(random, "abz019_ \"\\/\n", random.Intn(60)))
	}
	if right < 2000 || right > 18000 {
		t.Errorf("%d of 20000 sources are right", right)
	}
}

// P9.1: sources of 8000 bytes that have as many tokens as possible, and of fewer but long ones.
func TestLongSources(t *testing.T) {
	all := kinds()
	random := rand.New(rand.NewSource(8000))
	for _, s := range []string{strings.Repeat("(", 8000), strings.Repeat("<=", 4000), strings.Repeat(".", 8000), strings.Repeat(`""`, 4000), strings.Repeat("a ", 4000), strings.Repeat("//\n ", 2000), strings.Repeat("123456.", 1142), strings.Repeat("abcdefghijklmnop-", 470), strings.Repeat(quoted(40), 190)} {
		compare(t, all, s)
		compare(t, all, s+strings.Repeat(" ", 8000-len(s)))
		if got := tokens(s); got.e != api.OK {
			t.Errorf("%q..: %v", s[:20], got.e)
		}
	}
	for range 20 {
		compare(t, all, someSource(random, 500, 0))
	}
}

// quoted returns a Text of n bytes.
func quoted(n int) string { return `"` + strings.Repeat("q", n) + `"` }
