package lex_test

import (
	"math/rand"
	"strings"
	"testing"

	"farandole/api"
	"farandole/lex"
)

// fails tests that a source leads to an error at an offset, without tokens, alone and behind and in front of others.
func fails(t *testing.T, s string, at int, e api.Errno) {
	t.Helper()
	for front, n := range map[string]int{"": 0, " ": 1, "\n": 1, "a1 ": 3, "12 ": 3, "loop\n": 5, "a->b:\t": 6, "\"\\\"\" ": 5, "// \" &\r\n": 8, "( // 1a\n": 8} {
		for _, behind := range []string{"", " ", "\n", "\n&", "\n12a", "\n007", "\nabcdefghijklmnopq", "\na \"b\" 1 ->", "\n// a", "\n\""} {
			if got := tokens(front + s + behind); !got.equal(result{at: n + at, e: e}) {
				t.Fatalf("%q: got %v, want %v at %d", front+s+behind, got, e, n+at)
			}
		}
	}
}

// P9.1: the examples of the chapter.
func TestErrorExamples(t *testing.T) {
	fails(t, "12a", 0, api.ErrSyntax)
	fails(t, "007", 0, api.ErrRange)
}

// P9.1: ErrSyntax if no token begins at a byte.
func TestNoToken(t *testing.T) {
	for c := range 256 {
		s := string([]byte{byte(c)})
		if !strings.Contains(letters+"0123456789(){},;:.+-*/%<>=! \t\n\r", s) {
			fails(t, s, 0, api.ErrSyntax)
			if s != `"` && s != "_" {
				fails(t, s+"a", 0, api.ErrSyntax)
				fails(t, "a"+s+"a", 1, api.ErrSyntax)
				fails(t, "1"+s+"a", 1, api.ErrSyntax)
				fails(t, `""`+s+"a", 2, api.ErrSyntax)
			}
		}
	}
	for s, at := range map[string]int{"a & b": 2, "&&&": 2, "& &": 0, "&|": 0, "|||": 2, "|&&": 0, "a?": 1, "a ? b": 2, "_": 0, "_a": 0, "__": 0, "(_1)": 1, "a._b": 2, "#a": 0, "[0]": 0, "'a'": 0, "a\v": 1, "\fa": 0, "é": 0, "aé": 1, "\ufeffa": 0, "\u00a0": 0, "a\u2028b": 1, "1é": 1, "\x00": 0, "a\x00": 1, "->~": 2, `\`: 0, `\"`: 0, `\\`: 0, "a\\\nb": 1} {
		fails(t, s, at, api.ErrSyntax)
	}
}

// P9.1: ErrSyntax for a Text without an end, or with a byte that is no element, also if it is too long.
func TestBrokenTexts(t *testing.T) {
	for _, s := range []string{`"`, `"a`, `"ab c`, `"\`, `"\"`, `"\\`, `"\\\"`, `"a\`, `"\\\`, `"'`, `"// a`, `"\n"`, `"\t"`, `"\a"`, `"\0"`, `"\x41"`, `"\u0041"`, `"\ "`, `"\/"`, `"\'"`, `"\n`, "\"a\nb\"", "\"\\\n\"", "\"\\\r\"", "\"\\\x00\"", "\"\\\xff\"", `"é"`, `"\é"`, "\"\ufeff\""} {
		fails(t, s, 0, api.ErrSyntax)
		fails(t, "a"+s, 1, api.ErrSyntax)
		fails(t, "1"+s, 1, api.ErrSyntax)
		fails(t, `""`+s, 2, api.ErrSyntax)
		fails(t, `"`+strings.Repeat(" ", 41)+s[1:], 0, api.ErrSyntax)
		fails(t, `"`+strings.Repeat(`\"`, 300)+s[1:], 0, api.ErrSyntax)
	}
	for c := range 256 {
		s := string([]byte{byte(c)})
		switch {
		case c == '"' || c == '\\':
			reads(t, `"\`+s+`"`, text(s, 0))
			continue
		case c >= 32 && c <= 126:
			reads(t, `"`+s+`"`, text(s, 0))
		default:
			fails(t, `"`+s+`"`, 0, api.ErrSyntax)
			fails(t, `"a`+s+`b"`, 0, api.ErrSyntax)
			fails(t, `"`+strings.Repeat("a", 40)+s+`"`, 0, api.ErrSyntax)
		}
		fails(t, `"\`+s+`"`, 0, api.ErrSyntax)
		fails(t, `"\\\`+s+`"`, 0, api.ErrSyntax)
	}
}

// P9.1: ErrSyntax for digits that are directly followed by a letter or an underscore, ahead of ErrRange.
func TestJoinedDigits(t *testing.T) {
	for _, digits := range []string{"0", "1", "12", "999999", "00", "007", "000000", "1234567", "0000000", strings.Repeat("9", 100)} {
		for i := range len(letters) {
			fails(t, digits+letters[i:i+1], 0, api.ErrSyntax)
		}
		for _, s := range []string{"_", "_1", "a1", "x1", "e5", "__", "loop", "L", strings.Repeat("a", 20)} {
			fails(t, digits+s, 0, api.ErrSyntax)
			fails(t, "."+digits+s, 1, api.ErrSyntax)
			fails(t, "a-"+digits+s, 2, api.ErrSyntax)
		}
	}
}

// P9.1: ErrRange for other digits that are no Number.
func TestWrongDigits(t *testing.T) {
	for _, s := range []string{"00", "01", "09", "000", "007", "010", "000000", "0000000", "099999", "1000000", "1234567", "9999999", "0123456", "12345678901234567890123", strings.Repeat("9", 1000), strings.Repeat("0", 1000)} {
		for _, behind := range []string{"", " a", ".", "..1", "-1", `"a"`, "+", "//", "é", "?", "\x00"} {
			fails(t, s+behind, 0, api.ErrRange)
			fails(t, "-"+s+behind, 1, api.ErrRange)
			fails(t, "1.."+s+behind, 3, api.ErrRange)
		}
	}
}

// P9.1: ErrLimit for a Name or a Text that is too long.
func TestTooLong(t *testing.T) {
	for _, n := range []int{17, 18, 32, 33, 100, 255, 256, 257, 7000} {
		for _, s := range []string{strings.Repeat("a", n), strings.Repeat("Z", n), "a" + strings.Repeat("0", n-1), "a" + strings.Repeat("_", n-1), "loop" + strings.Repeat("9", n-4)} {
			for _, behind := range []string{"", " b", "-", ".b", "&", `"`, "é"} {
				fails(t, s+behind, 0, api.ErrLimit)
				fails(t, "("+s+behind, 1, api.ErrLimit)
			}
		}
	}
	for _, n := range []int{41, 42, 64, 80, 81, 256, 257, 3900} {
		for _, element := range []string{"a", " ", "~", `\\`, `\"`} {
			for _, behind := range []string{"", "b", "&", "1", `"`} {
				fails(t, `"`+strings.Repeat(element, n)+`"`+behind, 0, api.ErrLimit)
				fails(t, `a"`+strings.Repeat(element, n)+`"`+behind, 1, api.ErrLimit)
			}
		}
	}
}

// P9.1: 8000 and ErrLimit for a source of more than 8000 bytes, ahead of all other errors.
func TestLongSource(t *testing.T) {
	all := kinds()
	for _, s := range []string{" ", "(", "a ", "\n", "//", "0 ", "?", "&", "\x00", "é", "12a ", "007 ", `"`, `"" `, "a", "9", "abcdefghijklmnopq "} {
		long := strings.Repeat(s, 1+10000/len(s))
		if _, at, e := lex.Tokens(long[:8000]); e != api.OK && at >= 8000 {
			t.Errorf("8000 bytes of %q: %v at %d", s, e, at)
		}
		compare(t, all, long[:8000])
		for _, n := range []int{8001, 8002, 9999} {
			if got := tokens(long[:n]); !got.equal(result{at: 8000, e: api.ErrLimit}) {
				t.Errorf("%d bytes of %q: %v at %d", n, s, got.e, got.at)
			}
		}
	}
	for s, e := range map[string]api.Errno{"a": api.OK, "0": api.OK, ".": api.OK, "?": api.ErrSyntax, `"`: api.ErrSyntax, "_": api.ErrSyntax} {
		got := tokens(strings.Repeat(" ", 7999) + s)
		if got.e != e || e == api.OK && (len(got.l) != 1 || got.l[0].From != 7999) || e != api.OK && got.at != 7999 {
			t.Errorf("%q at 7999: %v", s, got)
		}
	}
}

// P9.1: the first token that is wrong counts, whatever follows.
func TestFirstError(t *testing.T) {
	random := rand.New(rand.NewSource(9))
	wrong := map[string]api.Errno{"?": api.ErrSyntax, "& ": api.ErrSyntax, "0a": api.ErrSyntax, "00 ": api.ErrRange, "1234567 ": api.ErrRange, "abcdefghijklmnopq ": api.ErrLimit, `"` + strings.Repeat("-", 41) + `"`: api.ErrLimit, "\"\n": api.ErrSyntax}
	for range 200 {
		front, _ := someTokens(t, random, random.Intn(10))
		front += "\n"
		for s, e := range wrong {
			for other := range wrong {
				if got := tokens(front + s + other + front); !got.equal(result{at: len(front), e: e}) {
					t.Fatalf("%q: got %v, want %v", front+s+other, got, e)
				}
			}
		}
	}
}
