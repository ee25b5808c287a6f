package lex_test

import (
	"math/rand"
	"strconv"
	"strings"
	"testing"

	"farandole/api"
	"farandole/lex"
)

// written returns the source of a token.
func written(token lex.Token) string {
	switch token.Kind {
	case lex.Number:
		return strconv.Itoa(token.Value)
	case lex.Text:
		return lex.Quote(token.Text)
	}
	return token.Text
}

// shifted returns tokens that begin so many bytes later.
func shifted(l []lex.Token, by int) []lex.Token {
	var moved []lex.Token
	for _, token := range l {
		token.From += by
		moved = append(moved, token)
	}
	return moved
}

// rightSources returns sources without errors.
func rightSources() []string {
	random := rand.New(rand.NewSource(92))
	l := []string{"", " ", "//", "// a", "a", "a1->b:x // y", "1..2", "x: int 1..20 = \"a\\\"b\"; // end", "loop L { choice at A { A -> B: x; again L; } or { A -> B: y; } }", `"//"//"`, `/"/"/ /`, "0..0", "a\"b\"1<=\"\"", strings.Repeat("=", 99)}
	for range 3000 {
		s := someSource(random, random.Intn(15), 0)
		if _, _, e := lex.Tokens(s); e == api.OK {
			l = append(l, s)
		}
	}
	return l
}

// wrongSources returns sources with an error.
func wrongSources() []string {
	random := rand.New(rand.NewSource(95))
	l := []string{"12a", "007", "a 12a", "1234567", " \"ab", "\"a\nb\"", "abcdefghijklmnopq", "a & b", "a\n?", "// a\n&", "\"\\", "\"a\" \"b", quoted(41)}
	for range 300 {
		s := someSource(random, 1+random.Intn(10), 5)
		if _, _, e := lex.Tokens(s); e != api.OK {
			l = append(l, s)
		}
	}
	return l
}

// P9.2: tokens are in ascending order of From, where their sources stand; cutting ahead of one of them leaves those in front of it.
func TestPlaces(t *testing.T) {
	for _, s := range rightSources() {
		l, _, e := lex.Tokens(s)
		if e != api.OK {
			t.Fatalf("%q: %v", s, e)
		}
		end := 0
		for i, token := range l {
			if token.From < end || !strings.HasPrefix(s[token.From:], written(token)) {
				t.Fatalf("%q: %v behind %d", s, token, end)
			}
			end = token.From + len(written(token))
			if got := tokens(s[:token.From]); !got.equal(result{l: l[:i]}) {
				t.Fatalf("%q, cut at %d: %v", s, token.From, got)
			}
			if got := tokens(s[token.From:]); !got.equal(result{l: shifted(l[i:], -token.From)}) {
				t.Fatalf("%q from %d on: %v", s, token.From, got)
			}
		}
	}
}

// P9.2: cutting a source ahead of a token that is wrong leaves those in front of it, too.
func TestPlacesAheadOfErrors(t *testing.T) {
	for _, s := range wrongSources() {
		_, at, e := lex.Tokens(s)
		if e == api.OK || at < 0 || at >= len(s) {
			t.Fatalf("%q: %v at %d", s, e, at)
		}
		if _, _, e := lex.Tokens(s[:at]); e != api.OK {
			t.Fatalf("%q, cut at %d: %v", s, at, e)
		}
	}
}

// again tests that tokens, written with spaces in between, are read again.
func again(t *testing.T, l []lex.Token) {
	t.Helper()
	for _, space := range []string{" ", "   "} {
		var b strings.Builder
		var want []lex.Token
		for _, token := range l {
			token.From = b.Len()
			want = append(want, token)
			b.WriteString(written(token) + space)
		}
		for _, s := range []string{b.String(), strings.TrimRight(b.String(), " ")} {
			if got := tokens(s); !got.equal(result{l: want}) {
				t.Fatalf("%q: got %v, want %v", s, got, want)
			}
		}
	}
}

// P9.3: tokens that are written with spaces in between are read again: all pairs of some of each kind, and those of sources.
func TestAgain(t *testing.T) {
	some := []lex.Token{name("a", 0), name("Z_9", 0), name("abcdefghijklmnop", 0), number(0, 0), number(7, 0), number(999999, 0), text("", 0), text("a", 0), text(`"`, 0), text(`\`, 0), text(" // ", 0), text(strings.Repeat(`\`, 40), 0)}
	for _, s := range marks() {
		some = append(some, mark(s, 0))
	}
	for _, s := range keywords() {
		some = append(some, name(s, 0))
	}
	for _, a := range some {
		again(t, []lex.Token{a})
		for _, b := range some {
			again(t, []lex.Token{a, b})
			again(t, []lex.Token{a, b, a})
		}
	}
	for _, s := range rightSources() {
		l, _, _ := lex.Tokens(s)
		again(t, l)
	}
}

// P9.4: a text of up to 40 bytes from 32 to 126 is read from its Quote.
func TestQuoted(t *testing.T) {
	random := rand.New(rand.NewSource(94))
	var l []string
	eachOf(strings.Split(anything, ""), 1, func(s string) { l = append(l, s) })
	eachOf(strings.Split(anything, ""), 2, func(s string) { l = append(l, s) })
	eachOf([]string{"a", `"`, `\`, "/", " "}, 5, func(s string) { l = append(l, s) })
	for n := range 41 {
		for range 50 {
			l = append(l, of(random, anything, n), of(random, `\"n`, n))
		}
	}
	for _, s := range append(l, "", anything[:40], anything[40:80], anything[80:], anything[55:]) {
		reads(t, lex.Quote(s), text(s, 0))
		reads(t, "a"+lex.Quote(s)+lex.Quote(s), name("a", 0), text(s, 1), text(s, 1+len(lex.Quote(s))))
	}
	if len(anything) != 95 || anything[0] != 32 || anything[94] != 126 {
		t.Error("not all bytes are tested")
	}
}

// P9.4: Quote makes no Text of a text that is too long, or has other bytes.
func TestQuotedWrong(t *testing.T) {
	for s, e := range map[string]api.Errno{quoted(39): api.ErrLimit, strings.Repeat(`\`, 41): api.ErrLimit, strings.Repeat(" ", 100): api.ErrLimit, "\n": api.ErrSyntax, "a\tb": api.ErrSyntax, "\x7f": api.ErrSyntax, "\x00": api.ErrSyntax, "é": api.ErrSyntax, "\xff": api.ErrSyntax, strings.Repeat("a", 41) + "\n": api.ErrSyntax} {
		fails(t, lex.Quote(s), 0, e)
	}
}

// both returns the result for two sources with a line feed in between, from those for each.
func both(a, b result, behind int) result {
	switch {
	case a.e != api.OK:
		return a
	case b.e != api.OK:
		return result{at: behind + b.at, e: b.e}
	}
	return result{l: append(shifted(a.l, 0), shifted(b.l, behind)...)}
}

// testParts tests that the tokens of two sources with a line feed in between are those of both, or that the first error counts.
func testParts(t *testing.T, a, b string) {
	t.Helper()
	want := both(tokens(a), tokens(b), len(a)+1)
	if got := tokens(a + "\n" + b); !got.equal(want) {
		t.Fatalf("%q, %q: got %v, want %v", a, b, got, want)
	}
}

// P9.5: the tokens of two sources with a line feed in between are those of both.
func TestParts(t *testing.T) {
	random := rand.New(rand.NewSource(96))
	right, wrong := rightSources(), wrongSources()
	few := append(append([]string{}, right[:14]...), wrong[:13]...)
	for _, a := range few {
		for _, b := range few {
			testParts(t, a, b)
		}
	}
	for range 20000 {
		testParts(t, right[random.Intn(len(right))], right[random.Intn(len(right))])
		testParts(t, right[random.Intn(len(right))], wrong[random.Intn(len(wrong))])
		testParts(t, wrong[random.Intn(len(wrong))], right[random.Intn(len(right))])
	}
	for _, s := range []string{"a", "1", "-", "/", "// a", `"a"`, "&", `"`, "007", " "} {
		for _, other := range []string{"a", "1", ">", "/", "a\"", "&", `"`, "x", "=", " "} {
			testParts(t, s, other)
			testParts(t, s+s, other+s)
		}
	}
}

// P9.5: both sources together may have 8000 bytes with the line feed.
func TestLongParts(t *testing.T) {
	for _, n := range []int{0, 1, 4000, 7998, 7999} {
		testParts(t, strings.Repeat("(", n), strings.Repeat(")", 7999-n))
		if got := tokens(strings.Repeat("(", n) + "\n" + strings.Repeat(")", 8000-n)); !got.equal(result{at: 8000, e: api.ErrLimit}) {
			t.Errorf("%d and %d bytes: %v at %d", n, 8000-n, got.e, got.at)
		}
	}
}
