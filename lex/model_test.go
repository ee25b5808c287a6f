package lex_test

import (
	"math/rand"
	"regexp"
	"slices"
	"strconv"
	"strings"
	"testing"

	"farandole/api"
	"farandole/lex"
)

// result is what Tokens returns.
type result struct {
	l  []lex.Token
	at int
	e  api.Errno
}

func (r result) equal(other result) bool {
	return slices.Equal(r.l, other.l) && r.at == other.at && r.e == other.e
}

func tokens(s string) result {
	l, at, e := lex.Tokens(s)
	return result{l, at, e}
}

// A kind of the model: what begins it, what it is as a whole, and what makes it wrong all the same.
type kind struct {
	begin, whole *regexp.Regexp
	token        func(text string) lex.Token
	wrong        func(text, behind string) api.Errno
}

var (
	blanks   = regexp.MustCompile(`^([ \t\n\r]|//[^\n]*)*`)
	digits   = regexp.MustCompile(`^(0|[1-9][0-9]{0,5})$`)
	joined   = regexp.MustCompile(`^[A-Za-z_]`)
	elements = regexp.MustCompile(`\\?([ -~])`)
	short    = regexp.MustCompile(`^[A-Za-z][A-Za-z0-9_]{0,15}$`)
)

// kinds returns the kinds of tokens, by their definitions.
func kinds() []kind {
	return []kind{
		{regexp.MustCompile(`^[A-Za-z]`), regexp.MustCompile(`^[A-Za-z][A-Za-z0-9_]*`), func(text string) lex.Token {
			return lex.Token{Kind: 1, Text: text}
		}, func(text, behind string) api.Errno {
			if len(text) > 16 {
				return api.ErrLimit
			}
			return api.OK
		}},
		{regexp.MustCompile(`^[0-9]`), regexp.MustCompile(`^[0-9]+`), func(text string) lex.Token {
			n, _ := strconv.Atoi(text)
			return lex.Token{Kind: 2, Value: n}
		}, func(text, behind string) api.Errno {
			if joined.MatchString(behind) {
				return api.ErrSyntax
			}
			if !digits.MatchString(text) {
				return api.ErrRange
			}
			return api.OK
		}},
		{regexp.MustCompile(`^"`), regexp.MustCompile(`^"([ !#-\[\]-~]|\\["\\])*"`), func(text string) lex.Token {
			return lex.Token{Kind: 3, Text: elements.ReplaceAllString(text[1:len(text)-1], "$1")}
		}, func(text, behind string) api.Errno {
			if len(elements.FindAllString(text[1:len(text)-1], -1)) > 40 {
				return api.ErrLimit
			}
			return api.OK
		}},
		{regexp.MustCompile(``), regexp.MustCompile(`^(->|\.\.|<=|>=|==|!=|&&|\|\||[(){},;:.+*/%<>=!-])`), func(text string) lex.Token {
			return lex.Token{Kind: 4, Text: text}
		}, func(text, behind string) api.Errno { return api.OK }},
	}
}

// model returns what Tokens should return.
func model(all []kind, s string) result {
	if len(s) > 8000 {
		return result{nil, 8000, api.ErrLimit}
	}
	var l []lex.Token
	at := len(blanks.FindString(s))
	for at < len(s) {
		rest := s[at:]
		k := all[slices.IndexFunc(all, func(k kind) bool { return k.begin.MatchString(rest) })]
		text := k.whole.FindString(rest)
		if text == "" {
			return result{nil, at, api.ErrSyntax}
		}
		behind := rest[len(text):]
		if e := k.wrong(text, behind); e != api.OK {
			return result{nil, at, e}
		}
		token := k.token(text)
		token.From = at
		l = append(l, token)
		at = len(s) - len(behind) + len(blanks.FindString(behind))
	}
	return result{l: l}
}

// compare tests Tokens by the model.
func compare(t *testing.T, all []kind, s string) {
	t.Helper()
	if got, want := tokens(s), model(all, s); !got.equal(want) {
		t.Fatalf("%q: got %v, want %v", s, got, want)
	}
}

// marks returns all Marks, those of two bytes first.
func marks() []string {
	return strings.Fields(`-> .. <= >= == != && || ( ) { } , ; : . + - * / % < > = !`)
}

// keywords returns all keywords.
func keywords() []string {
	return strings.Fields(`again and as at call choice else from if int len loop message of offer on or par plays protocol service text times to var where while within`)
}

const (
	letters  = "abcdefghijklmnopqrstuvwxyzABCDEFGHIJKLMNOPQRSTUVWXYZ"
	parts    = letters + "0123456789_"
	anything = " !\"#$%&'()*+,-./0123456789:;<=>?@ABCDEFGHIJKLMNOPQRSTUVWXYZ[\\]^_`abcdefghijklmnopqrstuvwxyz{|}~"
)

// of returns n random bytes of a string.
func of(random *rand.Rand, bytes string, n int) string {
	var b strings.Builder
	for range n {
		b.WriteByte(bytes[random.Intn(len(bytes))])
	}
	return b.String()
}

// someToken returns the source of a random token.
func someToken(random *rand.Rand) string {
	switch random.Intn(8) {
	case 0:
		return keywords()[random.Intn(len(keywords()))]
	case 1, 2:
		return of(random, letters, 1) + of(random, parts, random.Intn(16))
	case 3:
		return strconv.Itoa(random.Intn(1000000) >> random.Intn(20))
	case 4:
		return `"` + strings.NewReplacer(`"`, `\"`, `\`, `\\`).Replace(of(random, anything, random.Intn(41))) + `"`
	}
	return marks()[random.Intn(len(marks()))]
}

// someBlank returns random blanks and comments, or nothing.
func someBlank(random *rand.Rand) string {
	switch random.Intn(5) {
	case 0:
		return ""
	case 1:
		return "//" + of(random, anything+"\t\r\x00\xc3\xa9\xff", random.Intn(10)) + "\n" + someBlank(random)
	}
	return of(random, " \t\n\r", 1+random.Intn(3))
}

// someWrong returns something that is no token, or makes one wrong.
func someWrong(random *rand.Rand) string {
	l := []string{"&", "|", "?", "_", "_a", "\x00", "\x7f", "\xff", "é", "\v", "\f", "12a", "0_", "00", "01", "1234567", `"`, `"a`, `"\n"`, "\"\n\"", "\"\t\"", `"\`, `"é"`, strings.Repeat("a", 17), `"` + strings.Repeat(" ", 41) + `"`, "#", "'", "$", "@", "[", "]", "^", "`", "~"}
	return l[random.Intn(len(l))]
}

// someSource returns a source of n random tokens; with wrong > 0, one of so many is no token.
func someSource(random *rand.Rand, n, wrong int) string {
	var b strings.Builder
	for range n {
		b.WriteString(someBlank(random))
		if wrong > 0 && random.Intn(wrong) == 0 {
			b.WriteString(someWrong(random))
		} else {
			b.WriteString(someToken(random))
		}
	}
	b.WriteString(someBlank(random))
	return b.String()
}

// someTokens returns a source of n random tokens, with blanks where they would be read as others, and these tokens.
func someTokens(t *testing.T, random *rand.Rand, n int) (string, []lex.Token) {
	t.Helper()
	var b strings.Builder
	for range n {
		b.WriteString(of(random, " \t\n\r", 1) + someBlank(random) + someToken(random))
	}
	l, at, e := lex.Tokens(b.String())
	if len(l) != n || at != 0 || e != api.OK {
		t.Fatalf("%q: %v %d %v", b.String(), l, at, e)
	}
	return b.String(), l
}
