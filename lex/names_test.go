package lex_test

import (
	"math/rand"
	"regexp"
	"slices"
	"strings"
	"testing"

	"farandole/api"
	"farandole/lex"
)

// testName tests what IsName and IsWord say of a string.
func testName(t *testing.T, s string) {
	t.Helper()
	isName := short.MatchString(s)
	isWord := isName && !slices.Contains(keywords(), s)
	if lex.IsName(s) != isName || lex.IsWord(s) != isWord {
		t.Errorf("%q: %v %v, want %v %v", s, lex.IsName(s), lex.IsWord(s), isName, isWord)
	}
}

// P9.1: a name has 1 to 16 letters, digits and underscores, the first of which is a letter.
func TestIsName(t *testing.T) {
	testName(t, "")
	for a := range 256 {
		first := string([]byte{byte(a)})
		testName(t, first)
		for b := range 256 {
			second := string([]byte{byte(b)})
			testName(t, first+second)
			testName(t, "a"+first+second)
		}
		for n := range 18 {
			testName(t, strings.Repeat("a", n)+first)
			testName(t, first+strings.Repeat("_", n))
			testName(t, strings.Repeat("z", n/2)+first+strings.Repeat("9", n-n/2))
		}
	}
	for _, s := range []string{"a b", " a", "a ", "a\n", "a.b", "a-b", "a,b", "é", "aé", "a\x00", "1a", "_a", "0", "_", `"a"`, "a//", "abcdefghijklmnop", "abcdefghijklmnopq", strings.Repeat("a", 1000), strings.Repeat("?", 16)} {
		testName(t, s)
	}
	for _, s := range []string{"a", "Z", "a_", "loop", "abcdefghijklmnop", "A0_z"} {
		if !lex.IsName(s) {
			t.Errorf("%q is a name", s)
		}
	}
}

// P9.1: a word is a name that is no keyword.
func TestIsWord(t *testing.T) {
	if len(keywords()) != 28 {
		t.Errorf("%d keywords", len(keywords()))
	}
	for _, s := range keywords() {
		if !lex.IsName(s) || lex.IsWord(s) {
			t.Errorf("%q is a keyword", s)
		}
		for i := range len(s) {
			for _, c := range []string{"", "a", "e", "s", "_", "0", "A", s[i:i+1] + s[i:i+1], strings.ToUpper(s[i : i+1])} {
				testName(t, s[:i]+c+s[i+1:])
			}
			testName(t, s[:i])
			testName(t, s[i:])
		}
		for _, other := range keywords() {
			testName(t, s+other)
			testName(t, s+"_"+other)
			testName(t, s+" "+other)
		}
		for _, other := range []string{strings.ToUpper(s), strings.ToUpper(s[:1]) + s[1:], s + "s", s + "_", s + "0", "_" + s, " " + s, s + " ", s + "\n", s + "\x00"} {
			testName(t, other)
			if lex.IsWord(other) != lex.IsName(other) {
				t.Errorf("%q is no keyword", other)
			}
		}
	}
	for _, s := range []string{"a", "Loop", "send", "receive", "true", "false", "end", "role", "do", "not", "return", "offers", "number", "name", "is", "in", "with", "then", "time", "for", "break", "string", "timeout", "do_", "a1"} {
		if !lex.IsWord(s) {
			t.Errorf("%q is a word", s)
		}
	}
}

// P9.1: all strings of up to 3 letters, of which 16 are keywords.
func TestShortWords(t *testing.T) {
	count := 0
	for n := range 4 {
		eachOf(strings.Split("abcdefghijklmnopqrstuvwxyz", ""), n, func(s string) {
			if lex.IsName(s) != (n > 0) {
				t.Errorf("%q", s)
			}
			if n > 0 && !lex.IsWord(s) {
				count++
			}
		})
	}
	short := 0
	for _, s := range keywords() {
		if len(s) <= 3 {
			short++
		}
	}
	if count != short || short == 0 {
		t.Errorf("%d of %d", count, short)
	}
}

// P9.1: a string is a name if it is the only token of itself, and this is a Name.
func TestNamesAndTokens(t *testing.T) {
	random := rand.New(rand.NewSource(17))
	for range 20000 {
		s := of(random, "abyzABYZ0189__..\" \n", random.Intn(5))
		if random.Intn(2) == 0 {
			s = of(random, letters, 1) + of(random, parts, random.Intn(20))
		}
		l, _, e := lex.Tokens(s)
		is := e == api.OK && len(l) == 1 && l[0] == name(s, 0)
		if lex.IsName(s) != is {
			t.Errorf("%q: %v, but %v %v", s, !is, l, e)
		}
		testName(t, s)
	}
}

// escaped is what stands behind a backslash in a Text.
var escaped = regexp.MustCompile(`["\\]`)

// P9.1: Quote writes all bytes as they are, but for a backslash ahead of a quotation mark and of a backslash.
func TestQuote(t *testing.T) {
	for s, want := range map[string]string{
		"": `""`, "a": `"a"`, " ": `" "`, `"`: `"\""`, `\`: `"\\"`, `a"b\c`: `"a\"b\\c"`, `\"`: `"\\\""`, `\n`: `"\\n"`, `""`: `"\"\""`, `\\`: `"\\\\"`, "\n": "\"\n\"", "\x00": "\"\x00\"", "\xff": "\"\xff\"", "é": `"é"`, "'": `"'"`, "\t\r\x7f": "\"\t\r\x7f\"", "// a": `"// a"`, "\xe2\x80": "\"\xe2\x80\"", "\xc3\"\xa9": "\"\xc3\\\"\xa9\"",
		strings.Repeat("a", 41): `"` + strings.Repeat("a", 41) + `"`, strings.Repeat(`\`, 5000): `"` + strings.Repeat(`\\`, 5000) + `"`,
	} {
		if got := lex.Quote(s); got != want {
			t.Errorf("%q: got %q, want %q", s, got, want)
		}
	}
	for a := range 256 {
		for b := range 256 {
			s := string([]byte{byte(a), byte(b)})
			if got, want := lex.Quote(s), `"`+escaped.ReplaceAllString(s[:1], `\$0`)+escaped.ReplaceAllString(s[1:], `\$0`)+`"`; got != want {
				t.Errorf("%q: got %q, want %q", s, got, want)
			}
		}
	}
}
