package names_test

import (
	"math"
	"reflect"
	"slices"
	"strings"
	"testing"
	"unsafe"

	"farandole/api"
	"farandole/names"
	"farandole/syntax"
)

// P1: Check and Takes return for items that contain themselves.
func TestItemsInThemselves(t *testing.T) {
	for kind := range 8 {
		for n := 1; n <= 8; n++ {
			l := []syntax.Item{{Kind: syntax.Send, From: "A", To: []string{"B"}, Name: "m"}, {Kind: kind, From: "C", To: []string{"D"}, Blocks: make([][]syntax.Item, n)}, {Kind: syntax.Choice, From: "E"}}
			for i := range n {
				l[1].Blocks[i] = l[i%2:]
			}
			if got := names.Check(withItems(l...)); got != (names.Problem{Err: api.ErrArg}) {
				t.Errorf("kind %d: %v", kind, got)
			}
			want := map[int]string{syntax.Send: "ABCDE", syntax.Choice: "ABCE", syntax.Call: "ABDE"}[kind]
			if got := names.Takes([]string{"A", "B", "C", "D", "E", "F"}, l); strings.Join(got, "") != cmpOr(want, "ABE") {
				t.Errorf("kind %d: %q", kind, got)
			}
		}
	}
}

// deep returns an item in so many others, of which each has it so many times.
func deep(depth, blocks int) []syntax.Item {
	l := []syntax.Item{{Kind: syntax.Choice, From: "A"}}
	for range depth {
		l = []syntax.Item{{Kind: syntax.Par, Blocks: slices.Repeat([][]syntax.Item{l}, blocks)}}
	}
	return l
}

// P1: Check and Takes return soon for items that have much in common, or stand deep in others.
func TestDeepItems(t *testing.T) {
	for _, depth := range []int{10, 100, 65536, 300000} {
		for _, blocks := range []int{1, 2, 8} {
			l := deep(depth, blocks)
			if got := names.Check(withItems(l...)); got != (names.Problem{Err: api.ErrArg}) {
				t.Errorf("%d items: %v", depth, got)
			}
			if got := names.Takes([]string{"B", "A"}, l); !slices.Equal(got, []string{"A"}) {
				t.Errorf("%d items: %q", depth, got)
			}
		}
	}
	// Parts of one list in each of its items.
	l := make([]syntax.Item, 3000)
	for i := range l {
		l[i] = syntax.Item{Kind: syntax.Par, Blocks: [][]syntax.Item{l[i:], l[:i], l[i/2 : i]}}
	}
	l[2999] = syntax.Item{Kind: syntax.Choice, From: "A"}
	if got := names.Takes([]string{"A", "B"}, l[:1]); !slices.Equal(got, []string{"A"}) {
		t.Errorf("parts of a list: %q", got)
	}
}

// P1: Check and Takes return for long lists and texts, and extreme numbers.
func TestExtremes(t *testing.T) {
	long := strings.Repeat("a", 5000000)
	many := slices.Repeat([]string{"A", "B"}, 500000)
	for _, l := range [][]syntax.Protocol{
		make([]syntax.Protocol, 1000000), {{Name: long, Roles: many}}, withField(api.Sort{Kind: api.SortInt, Lo: math.MinInt, Hi: math.MaxInt}), withField(api.Sort{Kind: math.MinInt}),
		withAtoms(syntax.Atom{Left: syntax.Term{Kind: math.MaxInt, N: math.MinInt}}), withItems(syntax.Item{Kind: math.MinInt, Ticks: math.MaxInt}), withItems(make([]syntax.Item, 1000000)...),
	} {
		if got := names.Check(l); got != (names.Problem{Err: api.ErrArg}) {
			t.Errorf("%v", got)
		}
	}
	items := append(make([]syntax.Item, 1000000), syntax.Item{Kind: syntax.Send, From: long, To: many})
	if got := names.Takes(append([]string{long}, many...), items); len(got) != 1000001 || got[0] != long || got[1000000] != "B" {
		t.Errorf("%d roles", len(got))
	}
}

// P2: Check and Takes do not modify their arguments, also not in the capacities of lists.
func TestArgumentsStay(t *testing.T) {
	g := newGrower(21)
	for range 300 {
		l := copyOf(g.protocols())
		g.change(&l)
		roles := slices.Grow(g.some(0, 4, "A", "B", "C", "D"), 3)
		want := dump(wholeOf(l)) + dump(roles[:cap(roles)])
		names.Check(l)
		for _, p := range l {
			names.Takes(roles, p.Body)
			names.Takes(p.Roles, p.Body)
		}
		if got := dump(wholeOf(l)) + dump(roles[:cap(roles)]); got != want {
			t.Fatalf("%.2000s is changed to %.2000s", want, got)
		}
	}
}

// wholeOf returns a copy of a value with all lists up to their capacities.
func wholeOf[T any](x T) T {
	v := reflect.ValueOf(&x).Elem()
	wholeParts(v)
	return x
}

func wholeParts(v reflect.Value) {
	switch v.Kind() {
	case reflect.Slice:
		l := reflect.MakeSlice(v.Type(), v.Cap(), v.Cap())
		reflect.Copy(l, v.Slice(0, v.Cap()))
		for i := range l.Len() {
			wholeParts(l.Index(i))
		}
		v.Set(l)
	case reflect.Struct:
		for i := range v.NumField() {
			wholeParts(v.Field(i))
		}
	}
}

// P2: the results have no memory of arguments, or of other results.
func TestMemoryOfResults(t *testing.T) {
	for _, s := range []string{"protocol P(A, A) { }", "protocol P(A) { } protocol P(B) { }", "protocol P(A) { message m(x: int 1..0); }", "protocol P(A) { A -> B: m; }", "protocol P(A) { call Q(A) as x; }", "protocol P(A) { loop L { loop L { } } }"} {
		l := parsed(t, s)
		var memory [][]byte
		for _, texts := range partsOf(&l).texts {
			for _, v := range texts {
				b := []byte(v.String())
				v.SetString(unsafe.String(&b[0], len(b)))
				memory = append(memory, b)
			}
		}
		want := problemOf(parsed(t, s))
		got := names.Check(l)
		for _, b := range memory {
			b[0] = '?'
		}
		if got != want {
			t.Errorf("%v is changed to %v", want, got)
		}
	}
	b := []byte("A")
	roles := []string{unsafe.String(&b[0], 1), "B", "A"}
	items := []syntax.Item{{Kind: syntax.Send, From: roles[0], To: roles[:2]}}
	first, second := names.Takes(roles, items), names.Takes(roles, items)
	roles[1], b[0] = "?", '?'
	for i := range first[:cap(first)] {
		first[:cap(first)][i] = "?"
	}
	if !slices.Equal(second, []string{"A", "B", "A"}) {
		t.Errorf("changed to %q", second)
	}
}

// P3: the same calls lead to the same results, whatever was called in between.
func TestSameAgain(t *testing.T) {
	g := newGrower(22)
	var all [][]syntax.Protocol
	var problems []names.Problem
	var parts [][]string
	roles := []string{"D", "A", "B", "m", "A"}
	body := func(l []syntax.Protocol) []syntax.Item { return append(slices.Clone(l), syntax.Protocol{})[0].Body }
	for range 400 {
		l := g.protocols()
		g.change(&l)
		all = append(all, l)
		problems = append(problems, names.Check(l))
		parts = append(parts, names.Takes(roles, body(l)))
	}
	for i, l := range slices.Backward(all) {
		if got := names.Check(l); got != problems[i] || got != names.Check(copyOf(l)) {
			t.Fatalf("%v, then %v", problems[i], got)
		}
		if got := names.Takes(roles, body(l)); !slices.Equal(got, parts[i]) || !slices.Equal(got, names.Takes(slices.Clone(roles), body(copyOf(l)))) {
			t.Fatalf("%q, then %q", parts[i], got)
		}
	}
}

func FuzzCheck(f *testing.F) {
	g := newGrower(23)
	for range 20 {
		s, _ := syntax.Print(g.protocols())
		f.Add(s, "A")
	}
	f.Fuzz(func(t *testing.T, source, role string) {
		for _, s := range []string{source, source + source, "protocol P(A, B, C) { message m(x: int 0..1, y: text 0..1); " + source + "}", "protocol P(A) { message m(x: int 0..1, y: text 0..1) where " + source + "; }"} {
			l, _, _ := syntax.Parse(s)
			check(t, l)
			for _, p := range l {
				takes(t, append(p.Roles, role), p.Body)
			}
		}
	})
}
