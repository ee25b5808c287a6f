package syntax_test

import (
	"slices"
	"strings"
	"testing"

	"farandole/api"
	"farandole/syntax"
)

// limited tests that protocols are valid, and can be read from their tokens, exactly if a limit is kept.
func limited(t *testing.T, l []syntax.Protocol, kept bool) {
	t.Helper()
	judges(t, l, kept)
	if validity(l) != kept {
		t.Fatalf("the model thinks otherwise of %.2000s", dump(l))
	}
	s := compact(tokensOf(l))
	if kept {
		reads(t, s, l...)
	} else {
		fails(t, s, 0, api.ErrLimit)
		fails(t, "// a\n"+s+"\n", 0, api.ErrLimit)
		fails(t, s+" x", len(s)+1, api.ErrSyntax)
		fails(t, s[:len(s)-1]+"loop L{", len(s)+6, api.ErrSyntax)
		fails(t, s+"protocol P(A){choice at A within 0", len(s)+33, api.ErrRange)
		fails(t, s+"?", len(s), api.ErrSyntax)
	}
	compare(t, grammarRules(), s)
}

// limit tests what is made of a number, which must be at most a limit.
func limit(t *testing.T, most int, with func(n int) []syntax.Protocol) {
	t.Helper()
	for _, n := range []int{most - 1, most, most + 1, most + 2, 2 * most} {
		limited(t, with(n), n <= most)
	}
}

// P10.1: the limits of protocols, roles, messages, fields and atoms.
func TestLimitsOfLists(t *testing.T) {
	protocol, message := withItems()[0], syntax.Message{Name: "m"}
	limit(t, 10, func(n int) []syntax.Protocol { return slices.Repeat([]syntax.Protocol{protocol}, n) })
	limit(t, 6, func(n int) []syntax.Protocol {
		return []syntax.Protocol{protocol, {Name: "Q", Roles: slices.Repeat([]string{"A"}, n)}}
	})
	limit(t, 40, func(n int) []syntax.Protocol { return withMessages(slices.Repeat([]syntax.Message{message}, n)...) })
	limit(t, 40, func(n int) []syntax.Protocol {
		l := withMessages(slices.Repeat([]syntax.Message{message}, n)...)
		return append(withMessages(slices.Repeat([]syntax.Message{message}, 40)...), l...)
	})
	limit(t, 4, func(n int) []syntax.Protocol {
		f := api.Field{Name: "x", Sort: api.Sort{Kind: 1}}
		return withMessages(message, syntax.Message{Name: "m", Fields: slices.Repeat([]api.Field{f}, n)})
	})
	limit(t, 6, func(n int) []syntax.Protocol {
		a := syntax.Atom{Left: syntax.Term{Kind: 1}, Op: "<", Right: syntax.Term{Kind: 1}}
		return withMessages(message, syntax.Message{Name: "m", Where: slices.Repeat([]syntax.Atom{a}, n)})
	})
}

// P10.1: the limits of receivers, roles of calls, and blocks.
func TestLimitsOfItems(t *testing.T) {
	limit(t, 5, func(n int) []syntax.Protocol {
		x := send("m")
		x.To = slices.Repeat([]string{"A"}, n)
		return withItems(send("m"), x)
	})
	limit(t, 6, func(n int) []syntax.Protocol {
		return withItems(loop(syntax.Item{Kind: syntax.Call, To: slices.Repeat([]string{"A"}, n), Name: "Q", As: "x"}))
	})
	limit(t, 8, func(n int) []syntax.Protocol { return withItems(choice(0, make([][]syntax.Item, n)...)) })
	limit(t, 8, func(n int) []syntax.Protocol { return withItems(choice(7, make([][]syntax.Item, n)...)) })
	limit(t, 8, func(n int) []syntax.Protocol { return withItems(par(make([][]syntax.Item, n)...)) })
	limit(t, 8, func(n int) []syntax.Protocol {
		eight := make([][]syntax.Item, 8)
		return withItems(par(eight[:7]...), choice(0, eight...), loop(par(make([][]syntax.Item, n)...), choice(3, eight...)))
	})
}

// P10.1: the limit of items, also those in blocks, of each protocol alone.
func TestLimitOfNumber(t *testing.T) {
	again := syntax.Item{Kind: syntax.Again, Name: "L"}
	limit(t, 300, func(n int) []syntax.Protocol { return withItems(slices.Repeat([]syntax.Item{again}, n)...) })
	limit(t, 300, func(n int) []syntax.Protocol {
		return append(withItems(slices.Repeat([]syntax.Item{again}, 300)...), withItems(slices.Repeat([]syntax.Item{again}, n)...)...)
	})
	limit(t, 300, func(n int) []syntax.Protocol {
		return withItems(again, loop(slices.Repeat([]syntax.Item{again}, n-2)...))
	})
	limit(t, 300, func(n int) []syntax.Protocol {
		block := slices.Repeat([]syntax.Item{again}, 49)
		return withItems(choice(0, block, block, block[:1]), par(block, slices.Repeat([]syntax.Item{again}, n-199), block))
	})
}

// P10.1: the limit of the depth.
func TestLimitOfDepth(t *testing.T) {
	limit(t, 10, func(n int) []syntax.Protocol { return withItems(send("m"), deep(n), send("m")) })
	limit(t, 10, func(n int) []syntax.Protocol {
		x := send("m")
		for i := range n - 1 {
			block := []syntax.Item{send("m"), x}
			x = []syntax.Item{choice(0, nil, block), choice(5, nil, nil, block), par(block, nil), loop(block...)}[i%4]
		}
		return append(withItems(deep(9)), withItems(deep(5), x)...)
	})
	for n := range 1100 {
		source := "protocol P(A){" + strings.Repeat("loop a{", n) + strings.Repeat("}", n) + "}"
		if _, at, e := syntax.Parse(source); len(source) <= 8000 && (at != 0 || (e == api.OK) != (n <= 10) || n > 10 && e != api.ErrLimit) {
			t.Errorf("%d loops: %v at %d", n, e, at)
		}
	}
}

// pathOf returns a path of n bytes, if there are not too many.
func pathOf(n int) string {
	if n%2 == 1 {
		return strings.Repeat("a.", n/2) + "a"
	}
	return strings.Repeat("a.", n/2-1) + "ab"
}

// P10.1: the length of paths.
func TestLimitOfPaths(t *testing.T) {
	limit(t, 50, func(n int) []syntax.Protocol { return withMessages(syntax.Message{Name: pathOf(n)}) })
	limit(t, 50, func(n int) []syntax.Protocol { return withItems(send(pathOf(n))) })
	limit(t, 50, func(n int) []syntax.Protocol {
		x := loop(send("m"))
		x.Name = pathOf(n)
		return withItems(x)
	})
	limit(t, 50, func(n int) []syntax.Protocol {
		return withItems(loop(syntax.Item{Kind: syntax.Again, Name: pathOf(n)}))
	})
	for _, field := range []string{"x", "abcdefghijklmnop"} {
		limit(t, 50, func(n int) []syntax.Protocol {
			return withTerm(syntax.Term{Kind: syntax.Ref, Message: pathOf(n), Field: field, N: 1})
		})
		limit(t, 50, func(n int) []syntax.Protocol {
			return withTerm(syntax.Term{Kind: syntax.Len, Message: pathOf(n), Field: field})
		})
	}
	fails(t, "protocol P(A){again "+strings.Repeat("a.", 3900)+"a;}", 0, api.ErrLimit)
	fails(t, "protocol P(A){again "+strings.Repeat("a.", 3900)+";}", 7820, api.ErrSyntax)
}

// withLength returns valid protocols with a canonical source of n bytes, of which there are at least 60.
func withLength(n int) []syntax.Protocol {
	l := withItems()
	for missing := n - len(formatted(tokensOf(l))); missing > 0; {
		// A line has 10 to 59 bytes, and as many have to be left for the next one.
		size := min(missing, 59)
		if missing-size > 0 && missing-size < 10 {
			size = 30
		}
		l[0].Body = append(l[0].Body, syntax.Item{Kind: syntax.Again, Name: pathOf(size - 9)})
		missing -= size
	}
	return l
}

// P10.1: the length of the canonical source, of all protocols together.
func TestLimitOfLength(t *testing.T) {
	for n := 7900; n <= 8100; n++ {
		l := withLength(n)
		if got := len(formatted(tokensOf(l))); got != n {
			t.Fatalf("%d bytes instead of %d", got, n)
		}
		judges(t, l, n <= 8000)
		if s := compact(tokensOf(l)); n <= 8000 {
			reads(t, s, l...)
		} else {
			fails(t, s, 0, api.ErrLimit)
		}
	}
	for n := 3990; n <= 4010; n++ {
		judges(t, append(withLength(4000), withLength(n)...), n <= 4000)
		judges(t, append(withLength(n), withLength(4000)...), n <= 4000)
	}
}

// P10.1: the canonical source counts, and not the source.
func TestLengthOfSource(t *testing.T) {
	l := withLength(300)
	canonical, _ := syntax.Print(l)
	for _, blank := range []string{" ", "\n", "/"} {
		s := canonical + "//" + strings.Repeat(blank, 8000-302)
		reads(t, s, l...)
		fails(t, s+blank, 8000, api.ErrLimit)
	}
	// In nine loops, what has 10 bytes in the source has 46 bytes.
	for n := 160; n < 180; n++ {
		blocks := slices.Repeat([]syntax.Item{par(nil, nil)}, n)
		for range 9 {
			blocks = []syntax.Item{loop(blocks...)}
		}
		limited(t, withItems(blocks...), n <= 169)
	}
}
