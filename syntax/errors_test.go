package syntax_test

import (
	"math/rand"
	"slices"
	"strings"
	"testing"

	"farandole/api"
	"farandole/syntax"
)

// fails tests that a source leads to an error at an offset, without protocols.
func fails(t *testing.T, s string, at int, e api.Errno) {
	t.Helper()
	if l, gotAt, gotE := syntax.Parse(s); len(l) != 0 || gotAt != at || gotE != e {
		t.Errorf("%.2000q: got %v at %d, want %v at %d", s, gotE, gotAt, e, at)
	}
}

// P10.1: the error of layer 9 counts first, with its offset.
func TestTokenErrors(t *testing.T) {
	for _, s := range []string{"", "protocol P(A){}\n", "x ", "protocol P(A){choice at A within 0 ", "protocol P(A,B,C,D,E,F,G){}", "protocol ", "} "} {
		fails(t, s+"?", len(s), api.ErrSyntax)
		fails(t, s+"12a", len(s), api.ErrSyntax)
		fails(t, s+`"`, len(s), api.ErrSyntax)
		fails(t, s+"007", len(s), api.ErrRange)
		fails(t, s+"1000000", len(s), api.ErrRange)
		fails(t, s+"abcdefghijklmnopq", len(s), api.ErrLimit)
		fails(t, s+`"`+strings.Repeat("a", 41)+`"`, len(s), api.ErrLimit)
		fails(t, s+strings.Repeat(" ", 8001-len(s)), 8000, api.ErrLimit)
	}
}

// P10.1: the offset of the first token that is wrong, or the length of the source, if it ends too early.
func TestPlacesOfErrors(t *testing.T) {
	for s, at := range map[string]int{
		"x": 0, "{": 0, " 5": 1, `"protocol"`: 0, "protocol": 8, "protocol ": 9, "protocol P": 10, "protocol P(": 11, "protocol P(A": 12, "protocol P(A)": 13, "protocol P(A){": 14, "protocol P(A){ // a": 19,
		"protocol P(A){}x": 15, "protocol P(A){}}": 15, "protocol P(A){};": 15, "protocol P(){}": 11, "protocol P(A,){}": 13, "protocol P(,A){}": 11, "protocol P(A B){}": 13, "protocol P.Q(A){}": 10, "protocol P(A.B){}": 12, "protocol loop(A){}": 9, "protocol P(loop){}": 11, "protocol 5(A){}": 9, `protocol "P"(A){}`: 9, `protocol P"("A){}`: 10,
		"protocol P(A){message m()}": 25, "protocol P(A){message ();}": 22, "protocol P(A){message m.();}": 24, "protocol P(A){message m..n();}": 23, "protocol P(A){message m(x);}": 25, "protocol P(A){message m(x:);}": 26, "protocol P(A){message m(x:int);}": 29, "protocol P(A){message m(x:int 1);}": 31, "protocol P(A){message m(x:int 1..);}": 33, "protocol P(A){message m(x:int 1..2,);}": 35, "protocol P(A){message m(x:int 1...2);}": 33, "protocol P(A){message m(x:int 1. .2);}": 31, "protocol P(A){message m(x:int +1..2);}": 30, "protocol P(A){message m(x:int --1..2);}": 31,
		"protocol P(A){message m(x:text -1..2);}": 31, "protocol P(A){message m(x:text 1..-2);}": 34, "protocol P(A){message m(x:len 1..2);}": 26, "protocol P(A){message m(x:x 1..2);}": 26, "protocol P(A){message m(x.y:int 1..2);}": 25, "protocol P(A){message m(int:int 1..2);}": 24, "protocol P(A){message m()where;}": 30, "protocol P(A){message m()where x;}": 32, "protocol P(A){message m()where x<;}": 33, "protocol P(A){message m()where x=1;}": 32, "protocol P(A){message m()where x!=1;}": 32, "protocol P(A){message m()where x<1<2;}": 34, "protocol P(A){message m()where x<1 and;}": 38, "protocol P(A){message m()where x<1,x<2;}": 34, "protocol P(A){message m()where x<1&&x<2;}": 34,
		"protocol P(A){message m()where x+y<1;}": 33, "protocol P(A){message m()where x+-1<1;}": 33, "protocol P(A){message m()where x+1+1<1;}": 34, "protocol P(A){message m()where 1+1<1;}": 32, "protocol P(A){message m()where -x<1;}": 32, "protocol P(A){message m()where +1<1;}": 31, "protocol P(A){message m()where (x)<1;}": 31, "protocol P(A){message m()where x.<1;}": 33, "protocol P(A){message m()where x*2<1;}": 32, "protocol P(A){message m()where x<\"a\";}": 33, "protocol P(A){message m()where x\"<\"1;}": 32, "protocol P(A){message m()where len x<1;}": 35, "protocol P(A){message m()where len(1)<1;}": 35, "protocol P(A){message m()where len(x+1)<1;}": 36, "protocol P(A){message m()where len()<1;}": 35, "protocol P(A){message m()where len(x.)<1;}": 37, "protocol P(A){message m()where loop<1;}": 31, "protocol P(A){message m()where m.loop<1;}": 33,
		"protocol P(A){A->B:m;message m();}": 21, "protocol P(A){A->B:m}": 20, "protocol P(A){A->B;}": 18, "protocol P(A){A->:m;}": 17, "protocol P(A){A:m;}": 15, "protocol P(A){A-B:m;}": 15, "protocol P(A){A,B->C:m;}": 15, "protocol P(A){A->B,:m;}": 19, "protocol P(A){A.B->C:m;}": 15, "protocol P(A){A->B:;}": 19, "protocol P(A){A->B:m();}": 20, "protocol P(A){->B:m;}": 14, "protocol P(A){;}": 14, "protocol P(A){{}}": 14, "protocol P(A){A->B:m;;}": 21, "protocol P(A){at}": 14, "protocol P(A){or{}}": 14, "protocol P(A){else{}}": 14, "protocol P(A){and{}}": 14, "protocol P(A){protocol Q(A){}}": 14, "protocol P(A){while}": 14,
		"protocol P(A){choice A{}}": 21, "protocol P(A){choice at{}}": 23, "protocol P(A){choice at A}": 25, "protocol P(A){choice at A.B{}}": 25, "protocol P(A){choice at A{}or}": 29, "protocol P(A){choice at A{}else{}}": 27, "protocol P(A){choice at A{}or{}else{}}": 31, "protocol P(A){choice at A{}and{}}": 27, "protocol P(A){choice at A within{}}": 32, "protocol P(A){choice at A within 5{}}": 36, "protocol P(A){choice at A within 5{}or{}}": 40, "protocol P(A){choice at A within 5{}else{}else{}}": 42, "protocol P(A){choice at A within 5{}else{}or{}}": 42, "protocol P(A){choice at A within -5{}else{}}": 33, "protocol P(A){choice at A within 5 6{}else{}}": 35, "protocol P(A){choice within 5 at A{}else{}}": 21,
		"protocol P(A){loop{}}": 18, "protocol P(A){loop L}": 20, "protocol P(A){loop L;}": 20, "protocol P(A){loop L.{}}": 21, "protocol P(A){loop L{}or{}}": 22, "protocol P(A){again;}": 19, "protocol P(A){again L}": 21, "protocol P(A){again L,M;}": 21, "protocol P(A){again 1;}": 20, "protocol P(A){par{}}": 19, "protocol P(A){par{}or{}}": 19, "protocol P(A){par{}and}": 22, "protocol P(A){par x{}and{}}": 18, "protocol P(A){par{}{}}": 19,
		"protocol P(A){call Q(A);}": 23, "protocol P(A){call Q()as x;}": 21, "protocol P(A){call Q as x;}": 21, "protocol P(A){call Q.R(A)as x;}": 20, "protocol P(A){call (A)as x;}": 19, "protocol P(A){call Q(A)as;}": 25, "protocol P(A){call Q(A)as x.y;}": 27, "protocol P(A){call Q(A)as x}": 27, "protocol P(A){call Q(A,)as x;}": 23, "protocol P(A){call Q(A.B)as x;}": 22, "protocol P(A){call Q(A)as as;}": 26,
	} {
		fails(t, s, at, api.ErrSyntax)
	}
}

// vocabulary returns tokens of all sorts, and all that occur in the grammar.
func vocabulary() []string {
	return strings.Fields(`protocol message where and int text len choice at within or else loop again par call as while service x 0 7 1001 "a" "{" ( ) { } , ; : . .. + - * -> < <= == >= > != = && !`)
}

// someTokens returns n random tokens.
func someTokens(random *rand.Rand, n int) []string {
	words := vocabulary()
	var l []string
	for range n {
		l = append(l, words[random.Intn(len(words))])
	}
	return l
}

// with returns tokens of which some, from i to j, are replaced.
func with(l []string, i, j int, others ...string) string {
	return strings.Join(slices.Concat(l[:i], others, l[j:]), " ")
}

// P10.1: wherever a token of a source is left out, doubled, exchanged with the next one, replaced, or has another one ahead of it.
func TestChangedTokens(t *testing.T) {
	r := grammarRules()
	for _, s := range append(samples()[2:], "protocol P(A){choice at A within 5{choice at A{}or{}}or{}else{par{}and{}}loop L{}again L;call Q(A)as q;}") {
		l, _, e := syntax.Parse(s)
		if e != api.OK {
			t.Fatal(s, e)
		}
		tokens := tokensOf(l)
		for i := range tokens {
			compare(t, r, with(tokens, i, i+1))
			compare(t, r, with(tokens, i, len(tokens)))
			compare(t, r, with(tokens, i, i+1, tokens[i], tokens[i]))
			if i > 0 {
				compare(t, r, with(tokens, i-1, i+1, tokens[i], tokens[i-1]))
			}
			for _, other := range vocabulary() {
				compare(t, r, with(tokens, i, i, other))
				compare(t, r, with(tokens, i, i+1, other))
			}
		}
	}
}

// P10.1: all short sequences of tokens at several places.
func TestShortSequences(t *testing.T) {
	r := grammarRules()
	for _, c := range []struct {
		front, tokens, behind string
		n                     int
	}{
		{"", "protocol P ( A ) { } ,", "", 4},
		{"protocol P", "( ) A , { }", "", 6},
		{"protocol P ( A ) {", "A -> , : . ; }", "}", 5},
		{"protocol P ( A ) {", "choice at A within 5 { } or else", "", 4},
		{"protocol P ( A ) { choice at A", "within 5 { } or else", "}", 6},
		{"protocol P ( A ) {", "loop again par call A { } and ( ) as ;", "}", 4},
		{"protocol P ( A ) { par {", "par and { } x", "", 6},
		{"protocol P ( A ) { message", "m . ( ) where x < ;", "}", 5},
		{"protocol P ( A ) { message m (", "x : int text - 5 .. , )", "; }", 5},
		{"protocol P ( A ) { message m ( ) where", "x . len ( ) + - 5 <", "< 1 ; }", 4},
		{"protocol P ( A ) { message m ( ) where x", "< <= == = x 5 + and -", "; }", 4},
	} {
		var each func(s string, n int)
		each = func(s string, n int) {
			compare(t, r, s)
			compare(t, r, s+" "+c.behind)
			for _, token := range strings.Fields(c.tokens) {
				if n > 0 {
					each(s+" "+token, n-1)
				}
			}
		}
		each(c.front, c.n)
	}
}

// P10.1: random sequences of tokens, and random protocols with random changes.
func TestRandomSequences(t *testing.T) {
	r := grammarRules()
	random := rand.New(rand.NewSource(102))
	some := func(n int) []string { return someTokens(random, n) }
	for range 20000 {
		compare(t, r, strings.Join(some(random.Intn(12)), " "))
		compare(t, r, "protocol P ( A ) { "+strings.Join(some(random.Intn(12)), " "))
	}
	for _, l := range someProtocols(103, 700) {
		tokens := tokensOf(l)
		for range 3 {
			i := random.Intn(len(tokens) + 1)
			j := i + random.Intn(min(3, len(tokens)-i+1))
			compare(t, r, with(tokens, i, j, some(random.Intn(3))...))
		}
	}
}

// P10.1: keywords are no words.
func TestKeywords(t *testing.T) {
	for _, s := range keywords() {
		for _, c := range [][2]string{{"protocol ", "(A){}"}, {"protocol P(A,", "){}"}, {"protocol P(A){message ", "();}"}, {"protocol P(A){message m.", "();}"}, {"protocol P(A){message m(", ":int 1..2);}"}, {"protocol P(A){message m()where 1<m.", ";}"}, {"protocol P(A){message m()where len(", ")<1;}"}, {"protocol P(A){A->", ":m;}"}, {"protocol P(A){A->B:", ";}"}, {"protocol P(A){choice at ", "{}}"}, {"protocol P(A){loop ", "{}}"}, {"protocol P(A){again ", ";}"}, {"protocol P(A){call ", "(A)as q;}"}, {"protocol P(A){call Q(", ")as q;}"}, {"protocol P(A){call Q(A)as ", ";}"}} {
			fails(t, c[0]+s+c[1], len(c[0]), api.ErrSyntax)
			if _, _, e := syntax.Parse(c[0] + s + "_" + c[1]); e != api.OK {
				t.Errorf("%s%s_%s: %v", c[0], s, c[1], e)
			}
		}
	}
}
