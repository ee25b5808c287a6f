package syntax_test

import (
	"math/rand"
	"slices"
	"strings"
	"testing"

	"farandole/api"
	"farandole/lex"
	"farandole/syntax"
)

// parsed returns the protocols of a source without errors.
func parsed(t *testing.T, s string) []syntax.Protocol {
	t.Helper()
	l, at, e := syntax.Parse(s)
	if e != api.OK || at != 0 {
		t.Fatalf("%.2000q: %v at %d", s, e, at)
	}
	return l
}

// printed returns the canonical source of valid protocols.
func printed(t *testing.T, l []syntax.Protocol) string {
	t.Helper()
	s, e := syntax.Print(l)
	if e != api.OK {
		t.Fatalf("%v for %.2000s", e, dump(l))
	}
	return s
}

// P10.2: valid protocols are parsed from their canonical source, which is that of what is parsed, too.
func TestInverse(t *testing.T) {
	for _, l := range append(someProtocols(111, 3000), nil, withLength(7999), withLength(8000), withItems(items()...), withItems(deep(10))) {
		s := printed(t, l)
		again := parsed(t, s)
		equal(t, l, again)
		if !syntax.Valid(again) || printed(t, again) != s {
			t.Fatalf("%.2000q", s)
		}
	}
}

// P10.2: what is parsed is valid, from whatever source.
func TestParsedIsValid(t *testing.T) {
	random := rand.New(rand.NewSource(112))
	for _, l := range someProtocols(113, 1000) {
		tokens := tokensOf(l)
		for range 3 {
			changed := slices.Clone(tokens)
			for range random.Intn(3) {
				if len(tokens) > 0 {
					changed[random.Intn(len(changed))] = tokens[random.Intn(len(tokens))]
				}
			}
			s := compact(changed)
			if l, _, e := syntax.Parse(s); !syntax.Valid(l) || !validity(l) || e != api.OK && l != nil {
				t.Fatalf("%.2000q: %v, and not valid: %.2000s", s, e, dump(l))
			}
		}
	}
}

// blank returns random blanks and comments, at least one.
func blank(random *rand.Rand) string {
	l := []string{" ", "\n", "\t", "\r", "\r\n", "  ", "// protocol P(A){\n", "//\n", "//}\"?é\n", " // a; b\r\n\t"}
	s := l[random.Intn(len(l))]
	if random.Intn(3) == 0 {
		return s + blank(random)
	}
	return s
}

// spread returns a source with blanks and comments around all tokens, but perhaps not where none are needed.
func spread(random *rand.Rand, tokens []string) string {
	var b strings.Builder
	if random.Intn(2) == 0 {
		b.WriteString(blank(random))
	}
	for i, s := range tokens {
		b.WriteString(s)
		if needed := i+1 < len(tokens) && compact(tokens[i:i+2]) != s+tokens[i+1]; needed || random.Intn(4) > 0 {
			b.WriteString(blank(random))
		}
	}
	return b.String()
}

// P10.3: further blanks and comments between tokens change nothing.
func TestBlanks(t *testing.T) {
	random := rand.New(rand.NewSource(114))
	for _, l := range append(someProtocols(115, 700), withItems(items()...)) {
		for range 3 {
			if s := spread(random, tokensOf(l)); len(s) <= 8000 {
				equal(t, l, parsed(t, s))
			}
		}
		if s := compact(tokensOf(l)); len(s) <= 8000 {
			equal(t, l, parsed(t, s))
		}
	}
}

// P10.3: blanks and comments change neither an error nor the token that it is about.
func TestBlanksAndErrors(t *testing.T) {
	random := rand.New(rand.NewSource(116))
	r := grammarRules()
	for _, l := range someProtocols(117, 300) {
		tokens := append(tokensOf(l), "")
		tokens[random.Intn(len(tokens))] = someTokens(random, 1)[0]
		if s := spread(random, tokens); len(s) <= 8000 {
			compare(t, r, s)
		}
		short := compact(tokens)
		_, at, e := syntax.Parse(short)
		s := "// a\n\n" + short + " // b"
		switch {
		case e == api.OK:
			parsed(t, s)
		case e == api.ErrLimit:
			fails(t, s, at, e)
		case at == len(short):
			fails(t, s, len(s), e)
		default:
			fails(t, s, at+6, e)
		}
	}
}

// P10.4: the protocols of two sources, one behind the other, are those of both, if the limits are kept.
func TestParts(t *testing.T) {
	all := someProtocols(118, 400)
	few := [][]syntax.Protocol{nil, withItems(), slices.Repeat(withItems(), 9), slices.Repeat(withItems(), 10), withLength(4000), withLength(7000), withItems(deep(10)), all[0]}
	test := func(a, b []syntax.Protocol) {
		front, behind := compact(tokensOf(a)), printed(t, b)
		both := append(copyOf(a), b...)
		for _, s := range []string{front + behind, front + "\n// a\n" + behind, front + behind + " "} {
			if len(s) > 8000 {
				continue
			}
			if validity(both) {
				equal(t, both, parsed(t, s))
			} else {
				fails(t, s, 0, api.ErrLimit)
			}
		}
	}
	for _, a := range few {
		for _, b := range few {
			test(a, b)
		}
	}
	for i, a := range all {
		test(a, all[len(all)-1-i])
	}
}

// P10.4: an error of the second source is the same behind the first one, unless there is one there.
func TestPartsWithErrors(t *testing.T) {
	random := rand.New(rand.NewSource(119))
	for _, l := range someProtocols(120, 500) {
		tokens := append(tokensOf(l), "")
		tokens[random.Intn(len(tokens))] = someTokens(random, 1)[0]
		s := compact(tokens)
		if _, at, e := syntax.Parse(s); (e == api.ErrSyntax || e == api.ErrRange) && len(s) < 7000 {
			front := printed(t, withLength(100+random.Intn(800)))
			fails(t, front+s, len(front)+at, e)
			if at < len(s) {
				fails(t, s+"\n"+front, at, e)
			}
		}
	}
}

// P10.5: what stands behind the first error does not matter, as long as it can be divided into tokens.
func TestFirstError(t *testing.T) {
	random := rand.New(rand.NewSource(121))
	wrong := map[api.Errno]int{}
	for _, l := range append(someProtocols(122, 1500), slices.Repeat(withItems(), 11), withItems(choice(5, nil, nil), choice(9, nil, nil, nil))) {
		tokens := tokensOf(l)
		i := random.Intn(len(tokens) + 1)
		other := someTokens(random, 1)[0]
		if at := slices.Index(tokens, "within"); at >= 0 && random.Intn(2) == 0 {
			i, other = at+1, "0"
		}
		front := compact(append(tokens[:i:i], other))
		if len(front) > 7000 {
			continue
		}
		_, at, e := syntax.Parse(front)
		if e == api.OK || e == api.ErrLimit || at == len(front) {
			continue
		}
		wrong[e]++
		for _, behind := range []string{"", " ", "}", "// a", printed(t, withItems()), strings.Join(someTokens(random, 5), " "), compact(tokens[i:]), "?", "protocol P(A){choice at A within 0", `"`} {
			s := front + "\n" + behind
			if _, _, wrong := lex.Tokens(s); wrong == api.OK {
				fails(t, s, at, e)
			}
		}
	}
	if wrong[api.ErrSyntax] < 500 || wrong[api.ErrRange] < 50 {
		t.Errorf("the errors are %v", wrong)
	}
}
