package expand_test

import (
	"strconv"
	"strings"
	"testing"

	"farandole/api"
	"farandole/expand"
	"farandole/syntax"
)

// times writes a text n times, with the numbers from 1 on in place of #.
func times(n int, s string) string {
	var b strings.Builder
	for i := range n {
		b.WriteString(strings.ReplaceAll(s, "#", strconv.Itoa(i+1)))
	}
	return b.String()
}

// within returns OK, or ErrLimit if a number is greater than a limit.
func within(n, limit int) api.Errno {
	if n > limit {
		return api.ErrLimit
	}
	return api.OK
}

// P12.1: at most 40 messages, whichever protocols they are from.
func TestManyMessages(t *testing.T) {
	for _, own := range []int{0, 1, 4, 39, 40} {
		for _, calls := range []int{0, 1, 2, 3, 40, 41} {
			for _, called := range []int{0, 1, 2, 12, 13, 18, 39, 40} {
				fails(t, "protocol P(A) { "+times(own, "message m#(); ")+times(calls, "call Q(A) as q#; ")+"} protocol Q(A) { "+times(called, "message m#(); ")+"}", within(own+calls*called, 40))
			}
		}
	}
	// Those of a protocol that is called by another one, but by no chain from the first one, do not count.
	many := "protocol Q(A) { " + times(40, "message m#(); ") + "} protocol R(A) { message m(); call Q(A) as q; }"
	fails(t, "protocol P(A) { call Q(A) as q; } "+many, api.OK)
	fails(t, "protocol P(A) { call R(A) as q; } "+many, api.ErrLimit)
	fails(t, "protocol P(A) { call S(A) as q; } protocol S(A) { call R(A) as q; } "+many, api.ErrLimit)
	fails(t, "protocol P(A) { loop L { choice at A { call Q(A) as q; } or { call Q(A) as r; } } } "+many, api.ErrLimit)
}

// P12.1: at most 300 items, also those in blocks, but neither a Call nor a Par.
func TestManyItems(t *testing.T) {
	for _, own := range []int{0, 1, 2, 99, 100, 280, 299, 300} {
		for _, calls := range []int{0, 1, 2, 3, 100} {
			for _, called := range []int{0, 1, 2, 3, 10, 100, 300} {
				if own+calls > 300 || 10*own+23*calls+10*called > 7900 {
					continue
				}
				fails(t, "protocol P(A) { "+times(own, "loop L{}")+times(calls, "call Q(A)as q#;")+"} protocol Q(A) { "+times(called, "loop L{}")+"}", within(own+calls*called, 300))
			}
		}
	}
	blocks := "protocol Q(A) { loop L { loop M { } loop N { loop O { } } } choice at A { loop L { } } or { } } "
	for n := range 60 {
		fails(t, "protocol P(A) { loop K { "+times(n, "call Q(A) as q#; ")+"} } "+blocks, within(1+6*n, 300))
		fails(t, "protocol P(A, B) { par { "+times(n, "call Q(A) as q#; ")+"} and { par { } and { } } "+times(n/2, "par { loop X { } } and { } ")+"} "+blocks, within(6*n+n/2, 300))
	}
	// By chains of calls.
	for n := range 10 {
		c := times(n, "call N(A) as q#; ")
		fails(t, "protocol P(A) { "+strings.ReplaceAll(c, "N", "Q")+"} protocol Q(A) { "+strings.ReplaceAll(c, "N", "R")+"loop L { } } protocol R(A) { "+strings.ReplaceAll(c, "N", "S")+"} protocol S(A) { loop L { } }", within(n*(1+n*n), 300))
	}
}

// P12.1: items of a depth of at most 10, where a Par does not count.
func TestDepth(t *testing.T) {
	nested := func(kind string, n int, inner string) string {
		return times(n, kind) + inner + strings.Repeat("} ", n)
	}
	for around := range 10 {
		for inside := range 11 {
			q := " protocol Q(A) { " + nested("choice at A { ", inside, "") + "}"
			fails(t, "protocol P(A) { "+nested("choice at A { ", around, "call Q(A) as q; ")+"}"+q, within(around+inside, 10))
			fails(t, "protocol P(A) { "+nested("loop L# { ", around, "call R(A) as q; ")+"} protocol R(A) { call Q(A) as q; }"+q, within(around+inside, 10))
			fails(t, "protocol P(A) { "+nested("loop L# { ", around, "call R(A) as q; ")+"} protocol R(A) { loop L { call Q(A) as q; loop M { } } choice at A { } }"+q, within(around+1+max(1, inside), 10))
			fails(t, "protocol P(A, B) { "+nested("par { } and { ", around, "call Q(B) as q; ")+nested("choice at A { ", inside, "")+"}"+q, api.OK)
			if around > 0 {
				fails(t, "protocol P(A, B) { "+nested("choice at A { ", around-1, "par { call Q(B) as q; } and { } ")+"}"+q, within(around-1+inside, 10))
			}
		}
	}
}

// P12.1: paths of messages and loops of at most 50 bytes.
func TestLongPaths(t *testing.T) {
	long := "aaaaaaaaaaaaaaaa"
	for as := 1; as <= 16; as++ {
		for last := 1; last <= 16; last++ {
			path := long + "." + long[:last]
			size := 2*as + 2 + len(path)
			rest := "call Q(A) as " + long[:as] + "; } protocol Q(A) { call R(A) as " + long[:as] + "; } protocol R(A) { "
			fails(t, "protocol P(A) { "+rest+"message "+path+"(); }", within(size, 50))
			fails(t, "protocol P(A) { "+rest+"loop "+path+" { again "+path+"; } }", within(size, 50))
			fails(t, "protocol P(A) { "+rest+"message m(x: int 0..1) where "+path+"."+long+" < m.x; message "+path+"("+long+": int 0..1); }", within(size, 50))
			fails(t, "protocol P(A) { "+rest+"message m(x: int 0..1) where m.x < 1; loop L { loop M { again M; } } }", api.OK)
		}
	}
	fails(t, "protocol P(A) { call Q(A) as "+long+"; } protocol Q(A) { call R(A) as "+long+"; } protocol R(A) { call S(A) as "+long+"; } protocol S(A) { loop L { } }", api.ErrLimit)
	fails(t, "protocol P(A) { call Q(A) as "+long+"; } protocol Q(A) { call R(A) as "+long+"; } protocol R(A) { call S(A) as "+long+"; } protocol S(A) { choice at A { } }", api.OK)
}

// P12.1: a canonical source of at most 8000 bytes.
func TestLongSource(t *testing.T) {
	long := "ROLEROLEROLEROLE"
	found := 0
	for calls := 25; calls <= 40; calls++ {
		for role := 1; role <= 16; role++ {
			roles := "(" + long[:role] + ", B) "
			rest := roles + "{ " + times(calls, "call Q"+roles+"as aaaaaaaaaaaaaa#; ") + "} protocol Q(A, B) { message m(); loop LLLLLLLLLLLLLLLL { choice at A { A -> B: m; again LLLLLLLLLLLLLLLL; } or { B -> A: m; } } }"
			// sizeWith returns the size of the source with a name of so many bytes, or 0 if it is too long.
			sizeWith := func(name int) int {
				l := parsed(t, "protocol "+long[:name]+rest)
				p, e := check(t, l, l[0].Name)
				if e != api.OK {
					return 0
				}
				s, _ := syntax.Print([]syntax.Protocol{p})
				return len(s)
			}
			if sizeWith(1) == 0 || sizeWith(16) > 0 {
				continue
			}
			found++
			last := 16
			for sizeWith(last) == 0 {
				last--
			}
			if sizeWith(last) != 8000 {
				t.Errorf("%d bytes, and the next one is too long", sizeWith(last))
			}
		}
	}
	if found == 0 {
		t.Error("no source of 8000 bytes")
	}
}

// P12.1: whether the expansion of a protocol that is called is valid does not matter. Its source is too long only by the names of its roles.
func TestLongSourceOfCalled(t *testing.T) {
	l := parsed(t, "protocol P(A, B) { call Q(A, B) as q; } protocol Q(ROLEROLEROLEROLE, ROLEROLEROLEROL) { "+times(20, "call R(ROLEROLEROLEROLE, ROLEROLEROLEROL) as r#; ")+"} protocol R(A, B) { message m(); "+times(11, "A -> B: m; ")+"}")
	if p, e := check(t, l, "P"); e != api.OK || len(everything(p.Body)) != 220 {
		t.Errorf("%s for the protocol", e.Name())
	}
	if _, e := check(t, l, "Q"); e != api.ErrLimit {
		t.Errorf("%s for what it calls", e.Name())
	}
}

// waysOf returns protocols P0 to P4, where each one but the last calls the next one n times between two texts.
func waysOf(n int, ahead, behind, last string) string {
	var s string
	for i := range 4 {
		s += "protocol P" + strconv.Itoa(i) + "(A) { " + ahead + times(n, "call P"+strconv.Itoa(i+1)+"(A) as x#; ") + behind + "} "
	}
	return s + "protocol P4(A) { " + last + "}"
}

// P1: Expand returns soon, also where very many ways lead from call to call.
func TestManyWays(t *testing.T) {
	soon := func(source string, e api.Errno) {
		l := parsed(t, source)
		for range 3 {
			if p, got := expand.Expand(l, "P0"); got != e || len(p.Body) > 0 || len(p.Messages) > 0 {
				t.Fatalf("%s, want %s, for %s", got.Name(), e.Name(), source)
			}
		}
	}
	for last, e := range map[string]api.Errno{
		"": api.OK, "par { } and { par { } and { } } ": api.OK, "loop L { } ": api.ErrLimit, "message m(); ": api.ErrLimit, "message m(); choice at A { } ": api.ErrLimit,
		times(40, "message m#(); "): api.ErrLimit, times(60, "loop L { } "): api.ErrLimit, "par { choice at A { } } and { choice at A { } } ": api.ErrPar,
	} {
		soon(waysOf(80, "", "", last), e)
		soon(waysOf(80, "par { ", "} and { } ", last), e)
		if e == api.OK {
			e = api.ErrLimit
		}
		soon(waysOf(80, "loop L { ", "} ", last), e)
		soon(waysOf(80, "choice at A { } or { ", "} ", last), e)
	}
	for n := 1; n <= 5; n++ {
		for _, last := range []string{"", "loop L { } ", "message m(); ", "message m(); choice at A { } or { loop L { } } "} {
			for _, source := range []string{waysOf(n, "", "", last), waysOf(n, "loop L { ", "} ", last)} {
				l := parsed(t, source)
				for _, p := range l {
					check(t, l, p.Name)
				}
			}
		}
	}
}
