package expand_test

import (
	"slices"
	"strings"
	"testing"

	"farandole/api"
	"farandole/expand"
	"farandole/syntax"
)

// P12.1 and P12.2: random protocols without problems.
func TestRandomProtocols(t *testing.T) {
	g := newGrower(1)
	found := map[api.Errno]int{}
	calls, pars := 0, 0
	for range 2500 {
		l := g.protocols(t)
		for _, name := range []string{"P", "Q", "R", "A", "m", "B"} {
			_, e := check(t, l, name)
			found[e]++
			if e == api.OK {
				for _, x := range everything(named(l, name).Body) {
					switch x.Kind {
					case syntax.Call:
						calls++
					case syntax.Par:
						pars++
					}
				}
			}
		}
	}
	for _, e := range []api.Errno{api.OK, api.ErrNone, api.ErrPar, api.ErrLimit, api.ErrExist} {
		if found[e] < 30 {
			t.Errorf("only %d protocols with %s", found[e], e.Name())
		}
	}
	if calls < 1000 || pars < 500 {
		t.Errorf("only %d calls and %d pars", calls, pars)
	}
}

// P12.1: random protocols with some changes.
func TestChangedProtocols(t *testing.T) {
	g := newGrower(2)
	found := map[api.Errno]int{}
	for range 900 {
		l := g.protocols(t)
		for range 5 {
			changed := copyOf(l)
			for range 1 + g.Intn(2) {
				g.change(&changed)
			}
			for _, p := range append(slices.Clone(changed), syntax.Protocol{}) {
				_, e := check(t, changed, p.Name)
				found[e]++
			}
		}
	}
	if found[api.OK] < 1000 || found[api.ErrArg] < 1000 || found[api.ErrNone] < 100 {
		t.Error(found)
	}
}

// same tests what Expand returns.
func same(t *testing.T, l []syntax.Protocol, name string, want syntax.Protocol, wantE api.Errno) {
	t.Helper()
	if got, e := expand.Expand(l, name); e != wantE || !syntax.Equal([]syntax.Protocol{got}, []syntax.Protocol{want}) {
		t.Fatalf("%s and %s, want %s and %s, for %q in\n%.3000s", e.Name(), dump(got), wantE.Name(), dump(want), name, dump(l))
	}
}

// P12.3: a protocol without calls and parallel branches is its own expansion, alone and among others; so expansions are.
func TestAgain(t *testing.T) {
	g := newGrower(3)
	g.plain = true
	for range 1000 {
		l := g.protocols(t)
		for _, p := range l {
			same(t, l, p.Name, p, api.OK)
			same(t, []syntax.Protocol{p}, p.Name, p, api.OK)
		}
	}
	g.plain = false
	expanded := 0
	for range 1000 {
		l := g.protocols(t)
		for i, p := range l {
			once, e := expand.Expand(l, p.Name)
			if e != api.OK {
				continue
			}
			same(t, []syntax.Protocol{once}, p.Name, once, api.OK)
			// The others may call the expansion instead, but for its longer source.
			l[i] = once
			if syntax.Valid(l) {
				expanded++
				same(t, l, p.Name, once, api.OK)
			}
			l[i] = p
		}
	}
	if expanded < 1000 {
		t.Errorf("only %d expansions", expanded)
	}
}

// P12.4: the protocols that are not called may be left out, have another order, or be joined by others, also where the result is an error.
func TestApart(t *testing.T) {
	g := newGrower(4)
	found := map[api.Errno]int{}
	further := parsed(t, "protocol Z(A) { message m(); par { choice at A { } } and { choice at A { } } loop c1.L { call Y(A) as c1; } } protocol Y(A) { loop L { } }")
	for range 1000 {
		l := g.protocols(t)
		for _, p := range l {
			want, wantE := expand.Expand(l, p.Name)
			found[wantE]++
			called := reachedFrom(l, p.Name)
			same(t, called, p.Name, want, wantE)
			slices.Reverse(called)
			same(t, called, p.Name, want, wantE)
			if joined := slices.Concat(further[:1], called, further[1:]); syntax.Valid(joined) {
				same(t, joined, p.Name, want, wantE)
			}
			g.Shuffle(len(l), func(i, j int) { l[i], l[j] = l[j], l[i] })
			same(t, l, p.Name, want, wantE)
		}
	}
	if found[api.OK] < 1000 || found[api.ErrPar] < 20 || found[api.ErrExist] < 20 {
		t.Error(found)
	}
}

// countOf returns how many messages a protocol has, together with all that it calls, for each way to call them.
func countOf(l []syntax.Protocol, name string) int {
	p := named(l, name)
	n := len(p.Messages)
	for _, call := range callsIn(p.Body) {
		n += countOf(l, call.Name)
	}
	return n
}

// P12.5: each call has as many messages as its protocol with those that it calls, and no message in common with another one.
func TestOwnMessages(t *testing.T) {
	g := newGrower(5)
	pairs := 0
	for range 2000 {
		l := g.protocols(t)
		for _, p := range l {
			got, e := expand.Expand(l, p.Name)
			if e != api.OK {
				continue
			}
			if len(got.Messages) != countOf(l, p.Name) {
				t.Fatalf("%d messages, want %d, for %s in\n%.3000s", len(got.Messages), countOf(l, p.Name), p.Name, dump(l))
			}
			met := map[string]bool{}
			for _, m := range got.Messages {
				if met[m.Name] {
					t.Fatalf("the message %s twice for %s in\n%.3000s", m.Name, p.Name, dump(l))
				}
				met[m.Name] = true
			}
			behind := got.Messages[len(p.Messages):]
			calls := callsIn(p.Body)
			for i, call := range calls {
				n := countOf(l, call.Name)
				for _, m := range behind[:n] {
					if !strings.HasPrefix(m.Name, call.As+".") {
						t.Fatalf("the message %s in the call %s for %s in\n%.3000s", m.Name, call.As, p.Name, dump(l))
					}
				}
				behind = behind[n:]
				if n > 0 && slices.ContainsFunc(calls[:i], func(x syntax.Item) bool { return x.Name == call.Name }) {
					pairs++
				}
			}
		}
	}
	if pairs < 100 {
		t.Errorf("only %d calls of the same protocol", pairs)
	}
}
