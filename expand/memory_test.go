package expand_test

import (
	"cmp"
	"math"
	"reflect"
	"slices"
	"strings"
	"testing"
	"unsafe"

	"farandole/api"
	"farandole/expand"
	"farandole/syntax"
)

// notValid tests that protocols that are not valid have no expansion.
func notValid(t *testing.T, what string, l []syntax.Protocol, name string) {
	t.Helper()
	if p, e := expand.Expand(l, name); e != api.ErrArg || dump(p) != dump(syntax.Protocol{}) {
		t.Errorf("%s and %.300s for %s", e.Name(), dump(p), what)
	}
}

// P1: Expand returns for items that contain themselves, for long lists and texts, and extreme numbers.
func TestExtremes(t *testing.T) {
	roles := []string{"A", "B"}
	for kind := range 8 {
		for n := 1; n <= 8; n++ {
			l := []syntax.Item{{Kind: kind, From: "A", Blocks: make([][]syntax.Item, n)}, {Kind: syntax.Choice, From: "A", Blocks: make([][]syntax.Item, 1)}}
			for i := range n {
				l[0].Blocks[i] = l[i%2:]
			}
			l[1].Blocks[0] = l
			notValid(t, "items in themselves", []syntax.Protocol{{Name: "P", Roles: roles, Body: l}}, "P")
		}
	}
	deep := []syntax.Item{{Kind: syntax.Choice, From: "A"}}
	for range 300000 {
		deep = []syntax.Item{{Kind: syntax.Par, Blocks: [][]syntax.Item{deep, deep}}}
	}
	notValid(t, "deep items", []syntax.Protocol{{Name: "P", Roles: roles, Body: deep}}, "P")
	long := strings.Repeat("a", 5000000)
	notValid(t, "long texts", []syntax.Protocol{{Name: long, Roles: []string{long}}}, long)
	notValid(t, "many roles", []syntax.Protocol{{Name: "P", Roles: slices.Repeat(roles, 500000)}}, "P")
	notValid(t, "many protocols", make([]syntax.Protocol, 1000000), "")
	notValid(t, "many items", []syntax.Protocol{{Name: "P", Roles: roles, Body: make([]syntax.Item, 1000000)}}, "P")
	notValid(t, "extreme numbers", []syntax.Protocol{{Name: "P", Roles: roles, Body: []syntax.Item{{Kind: math.MinInt, Ticks: math.MaxInt}}}}, "P")
	notValid(t, "extreme sorts", []syntax.Protocol{{Name: "P", Roles: roles, Messages: []syntax.Message{{Name: "m", Fields: []api.Field{{Name: "x", Sort: api.Sort{Kind: math.MaxInt, Lo: math.MinInt}}}}}}}, "P")
}

// wholeOf returns a copy of a value with all lists up to their capacities.
func wholeOf[T any](x T) T {
	return copied(x, func(l reflect.Value) (part reflect.Value, room int) { return l.Slice(0, l.Cap()), 0 })
}

// P2: Expand does not modify its arguments, also not in the capacities of lists.
func TestArgumentsStay(t *testing.T) {
	g := newGrower(21)
	for i := range 500 {
		l := copyOf(g.protocols(t))
		if i%3 == 0 {
			g.change(&l)
		}
		want := dump(wholeOf(l))
		for _, p := range l {
			expand.Expand(l, p.Name)
		}
		if got := dump(wholeOf(l)); got != want {
			t.Fatalf("%.2000s is changed to %.2000s", want, got)
		}
	}
}

// area is a part of memory.
type area struct {
	first, behind uintptr
	text          bool
}

// areasOf returns where the lists, up to their capacities, and the texts of a value lie.
func areasOf(x any) []area {
	var out []area
	var visit func(v reflect.Value)
	visit = func(v reflect.Value) {
		switch v.Kind() {
		case reflect.Slice:
			if v.Cap() > 0 {
				out = append(out, area{v.Pointer(), v.Pointer() + uintptr(v.Cap())*v.Type().Elem().Size(), false})
			}
			for i := range v.Len() {
				visit(v.Index(i))
			}
		case reflect.Struct:
			for i := range v.NumField() {
				visit(v.Field(i))
			}
		case reflect.String:
			if s := v.String(); s != "" {
				at := uintptr(unsafe.Pointer(unsafe.StringData(s)))
				out = append(out, area{at, at + uintptr(len(s)), true})
			}
		}
	}
	visit(reflect.ValueOf(x))
	return out
}

// overlap reports whether two areas have memory in common.
func overlap(l []area) bool {
	l = slices.SortedFunc(slices.Values(l), func(a, b area) int { return cmp.Compare(a.first, b.first) })
	for i := 1; i < len(l); i++ {
		if l[i].first < l[i-1].behind {
			return true
		}
	}
	return false
}

// lists returns the areas of lists.
func lists(l []area) []area {
	return slices.DeleteFunc(slices.Clone(l), func(a area) bool { return a.text })
}

// P2: the lists of results lie in memory of their own, and so do the texts, but for those of the same result.
func TestMemoryOfResults(t *testing.T) {
	g := newGrower(22)
	tested := 0
	sources := []string{
		"protocol P(A, B) { message m(x: int 0..1, y: text 0..1) where m.x < x and y == y; loop L { choice at A within 5 { A -> B: m; again L; } else { A -> B: m; } } call Q(A, B) as q; par { } and { choice at A { call Q(B, A) as r; } or { } call R(A) as t; } call R(B) as s; } protocol Q(A, B) { message m(x: int 0..1) where 1 < m.x; choice at B { A -> B: m; } call R(A) as s; call R(B) as t; } protocol R(A) { message m(x: int 0..1) where 1 < m.x; choice at A { } or { loop L { } } }",
	}
	for range 500 {
		s, _ := syntax.Print(g.protocols(t))
		sources = append(sources, s)
	}
	for _, s := range sources {
		l := copyOf(parsed(t, s))
		for _, p := range l {
			first, e := expand.Expand(l, p.Name)
			second, _ := expand.Expand(l, p.Name)
			if e != api.OK {
				continue
			}
			tested++
			a, b, c := areasOf(l), areasOf(first), areasOf(second)
			if overlap(slices.Concat(lists(a), lists(b), lists(c))) {
				t.Fatalf("lists have memory in common for %s in %s", p.Name, s)
			}
			for i, area := range b {
				for _, other := range slices.Concat(a, c) {
					if area.first < other.behind && other.first < area.behind {
						t.Fatalf("%d of %d has memory in common with others for %s in %s", i, len(b), p.Name, s)
					}
				}
			}
		}
	}
	if tested < 300 {
		t.Errorf("only %d results", tested)
	}
}

// P2: a change of a result changes neither the argument nor another result.
func TestResultsStay(t *testing.T) {
	g := newGrower(23)
	for range 300 {
		l := g.protocols(t)
		want := dump(l)
		for _, p := range l {
			first, e := expand.Expand(l, p.Name)
			second, _ := expand.Expand(l, p.Name)
			wantSecond := dump(second)
			changed := []syntax.Protocol{first}
			for range 20 {
				g.change(&changed)
			}
			if dump(second) != wantSecond || dump(l) != want {
				t.Fatalf("%s: %.2000s is changed to %.2000s", e.Name(), wantSecond, dump(second))
			}
		}
	}
}

// P3: the same calls lead to the same results, whatever was called in between.
func TestSameAgain(t *testing.T) {
	g := newGrower(24)
	var all [][]syntax.Protocol
	var results []string
	result := func(l []syntax.Protocol) string {
		s := ""
		for _, p := range l {
			x, e := expand.Expand(l, p.Name)
			s += dump(x) + e.Name()
		}
		return s
	}
	for i := range 400 {
		l := g.protocols(t)
		if i%3 == 0 {
			g.change(&l)
		}
		all = append(all, l)
		results = append(results, result(l))
	}
	for i, l := range slices.Backward(all) {
		if got := result(l); got != results[i] || got != result(copyOf(l)) {
			t.Fatalf("%s, then %s", results[i], got)
		}
	}
}

func FuzzExpand(f *testing.F) {
	f.Add("protocol P(A, B) { message q.m(); call Q(B) as q; par { call R(A) as r; } and { } } protocol Q(A) { message m(); loop L { again L; } } protocol R(A) { call Q(A) as q; choice at A { } }", "call Q(A) as x;")
	f.Add("protocol P(A, B) { loop x.L { } }", "par { A -> B: m; } and { B -> A: m; }")
	f.Fuzz(func(t *testing.T, source, items string) {
		for _, s := range []string{source, source + "protocol Z(A, B) { message m(); " + items + "}", "protocol Z(A, B, C) { message m(x: int 0..1) where m.x < 1; " + items + "} protocol P(A) { " + items + "}" + source} {
			l, _, _ := syntax.Parse(s)
			for _, p := range append(l, syntax.Protocol{Name: items}) {
				// The model goes along all ways from call to call, of which there may be very many.
				if strings.Count(s, "call") < 20 {
					check(t, l, p.Name)
				}
				expand.Expand(l, p.Name)
			}
		}
	})
}
