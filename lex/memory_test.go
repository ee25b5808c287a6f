package lex_test

import (
	"math/rand"
	"slices"
	"strings"
	"testing"
	"unsafe"

	"farandole/api"
	"farandole/lex"
)

// answers has what all functions return for a string.
type answers struct {
	tokens         result
	isName, isWord bool
	quoted         string
}

func answersOf(s string) answers {
	return answers{tokens(s), lex.IsName(s), lex.IsWord(s), lex.Quote(s)}
}

func (a answers) equal(b answers) bool {
	return a.tokens.equal(b.tokens) && a.isName == b.isName && a.isWord == b.isWord && a.quoted == b.quoted
}

// P1: all functions return for long strings.
func TestExtremes(t *testing.T) {
	for _, s := range []string{"a", " ", "/", "\"", "\\", "\n", "0", "(", "\x00", "\xff", "a ", "\"a\"", "//\n"} {
		for _, n := range []int{7999, 8000, 8001, 100000, 3000000} {
			long := strings.Repeat(s, 1+n/len(s))[:n]
			got := answersOf(long)
			if got.isName || got.isWord || len(got.quoted) < n+2 || n > 8000 && !got.tokens.equal(result{at: 8000, e: api.ErrLimit}) {
				t.Errorf("%d bytes of %q: %v at %d", n, s, got.tokens.e, got.tokens.at)
			}
		}
	}
}

// overwrite writes to all places of the capacity of a list.
func overwrite(l []lex.Token) {
	l = l[:cap(l)]
	for i := range l {
		l[i] = lex.Token{Kind: -1, Text: "overwritten", Value: -1, From: -1}
	}
}

// P2: a change of a result does not change another one.
func TestNothingIsShared(t *testing.T) {
	all := kinds()
	for _, s := range append(rightSources(), wrongSources()...) {
		first, second, want := tokens(s), tokens(s), model(all, s)
		overwrite(first.l)
		if !second.equal(want) || !tokens(s).equal(want) {
			t.Fatalf("%q: %v, want %v", s, second, want)
		}
	}
}

// P2: the memory of a source is neither changed nor part of a result.
func TestSourceMemory(t *testing.T) {
	for _, s := range append(rightSources(), "abcdefghijklmnop", "loop", "<", "->", `"a"`, `""`) {
		if s == "" {
			continue
		}
		memory := []byte(s)
		source := unsafe.String(&memory[0], len(memory))
		got := answersOf(source)
		if string(memory) != s {
			t.Fatalf("%q is changed to %q", s, memory)
		}
		for i := range memory {
			memory[i] = '?'
		}
		if !got.equal(answersOf(s)) {
			t.Fatalf("%q: the change of the source changes a result to %v", s, got)
		}
	}
}

// P3: the same calls lead to the same results, whatever was called in between.
func TestSameAgain(t *testing.T) {
	all := append(append(rightSources(), wrongSources()...), keywords()...)
	var first []answers
	for _, s := range all {
		first = append(first, answersOf(s))
	}
	for i, s := range slices.Backward(all) {
		if again := answersOf(s); !again.equal(first[i]) {
			t.Fatalf("%q: %v, then %v", s, first[i], again)
		}
	}
}

func FuzzTokens(f *testing.F) {
	random := rand.New(rand.NewSource(9))
	for _, s := range append(rightSources()[:40], wrongSources()[:40]...) {
		f.Add(s, of(random, anything, random.Intn(50)))
	}
	f.Add(strings.Repeat("(", 8000), "a")
	all := kinds()
	f.Fuzz(func(t *testing.T, a, b string) {
		compare(t, all, a)
		compare(t, all, a+b)
		compare(t, all, lex.Quote(b))
		testName(t, a)
		testName(t, b)
		if len(a)+1+len(b) <= 8000 {
			testParts(t, a, b)
		}
		if l, _, e := lex.Tokens(a); e == api.OK && len(l) < 90 {
			again(t, l)
		}
	})
}
