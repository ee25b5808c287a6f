package syntax_test

import (
	"cmp"
	"math"
	"math/rand"
	"reflect"
	"runtime"
	"slices"
	"strconv"
	"strings"
	"testing"
	"unsafe"

	"farandole/api"
	"farandole/syntax"
)

// inItself returns an item of which each block contains it again, behind others.
func inItself(kind, blocks int) []syntax.Item {
	l := []syntax.Item{send("m"), {Kind: kind, From: "A", Name: "L", Blocks: make([][]syntax.Item, blocks)}}
	if kind == syntax.Par {
		l[1].From, l[1].Name = "", ""
	}
	for i := range blocks {
		l[1].Blocks[i] = l
	}
	return l
}

// P1: all functions return for items that contain themselves.
func TestItemsInThemselves(t *testing.T) {
	var all [][]syntax.Protocol
	for kind := range 8 {
		for _, n := range []int{1, 2, 8} {
			all = append(all, withItems(inItself(kind, n)...), withItems(inItself(kind, n)...))
		}
	}
	for i, a := range all {
		if s, e := syntax.Print(a); syntax.Valid(a) || s != "" || e != api.ErrArg {
			t.Errorf("%d is valid", i)
		}
		for j, b := range all {
			if got, want := syntax.Equal(a, b), i/2 == j/2; got != want {
				t.Errorf("%d and %d: %v", i, j, got)
			}
		}
	}
	// The first one comes back after two steps, and the second one after three; what is in them is the same, or is not.
	for _, last := range []string{"L", "M"} {
		a, b := ring("L", "L"), ring("L", "L", last)
		if got := syntax.Equal(withItems(a), withItems(b)); got != (last == "L") {
			t.Errorf("rings: %v with %s", got, last)
		}
	}
}

// ring returns a loop with loops with the given names in it, the last one of which contains the first one.
func ring(names ...string) syntax.Item {
	l := make([][]syntax.Item, len(names))
	for i, name := range names {
		x := loop()
		x.Name = name
		l[i] = []syntax.Item{x}
	}
	for i := range l {
		l[i][0].Blocks[0] = l[(i+1)%len(l)]
	}
	return l[0][0]
}

// shared returns an item with so many blocks at each depth, all of which have the same memory.
func shared(depth, blocks int) syntax.Item {
	x := send("m")
	for range depth {
		x = par(slices.Repeat([][]syntax.Item{{x}}, blocks)...)
	}
	return x
}

// P1: all functions return soon for items that have much in common, or stand deep in others.
func TestDeepItems(t *testing.T) {
	for _, n := range []int{9, 10, 11, 100, 10000, 65536} {
		a, b := withItems(shared(n, 1)), withItems(shared(n, 1))
		if syntax.Valid(a) || !syntax.Equal(a, b) || syntax.Equal(a, withItems(shared(n-1, 1))) {
			t.Errorf("%d items: wrong", n)
		}
		a, b = withItems(shared(n, 8)), withItems(shared(n, 8))
		if syntax.Valid(a) || !syntax.Equal(a, b) || syntax.Equal(a, withItems(shared(n-1, 8))) {
			t.Errorf("%d items with 8 blocks: wrong", n)
		}
	}
}

// P1: all functions return for long lists and texts, and for extreme numbers.
func TestExtremes(t *testing.T) {
	long := strings.Repeat("a", 5000000)
	l := slices.Repeat([]string{"A"}, 1000000)
	for _, p := range [][]syntax.Protocol{
		slices.Repeat(withItems(), 1000000), {{Name: long, Roles: []string{"A"}}}, {{Name: "P", Roles: l}}, {{Name: "P", Roles: []string{long}}},
		withMessages(slices.Repeat([]syntax.Message{{Name: "m"}}, 1000000)...), withMessages(syntax.Message{Name: long}), withMessages(syntax.Message{Name: "m", Fields: make([]api.Field, 1000000)}), withMessages(syntax.Message{Name: "m", Where: make([]syntax.Atom, 1000000)}),
		withItems(slices.Repeat([]syntax.Item{send("m")}, 1000000)...), withItems(syntax.Item{Kind: syntax.Send, From: "A", To: l, Name: "m"}), withItems(syntax.Item{Kind: syntax.Loop, Name: "L", To: l, Blocks: make([][]syntax.Item, 1)}), withItems(choice(0, make([][]syntax.Item, 1000000)...)),
		withTerm(syntax.Term{Kind: syntax.Ref, Field: "x", N: math.MinInt}), withTerm(syntax.Term{Kind: syntax.Const, N: math.MaxInt}), withItems(choice(math.MinInt, nil, nil)), withItems(syntax.Item{Kind: math.MinInt}),
	} {
		if s, e := syntax.Print(p); syntax.Valid(p) || s != "" || e != api.ErrArg || !syntax.Equal(p, copyOf(p)) || syntax.Equal(p, withItems()) {
			t.Errorf("%.200s", dump(p[:1]))
		}
	}
	for _, s := range []string{long, strings.Repeat("{", 8000), strings.Repeat("protocol P(A){", 571), "protocol P(A){" + strings.Repeat("par{", 1990), "protocol P(A){" + strings.Repeat("par{}and{", 800), "protocol P(A){" + strings.Repeat("choice at A{", 600), strings.Repeat("}", 8000), "protocol P(" + strings.Repeat("A,", 3900), "protocol P(A){message m()where " + strings.Repeat("a.", 3900), "protocol P(A){message m()where " + strings.Repeat("1<1 and ", 900)} {
		compare(t, grammarRules(), s)
	}
}

// memory is a part of the memory, up to but without its end.
type memory struct{ from, to uintptr }

// memories returns the memory of all lists and texts in a value, with the capacities of lists.
func memories(v reflect.Value) []memory {
	var l []memory
	switch v.Kind() {
	case reflect.Slice:
		if v.Cap() > 0 {
			from := v.Pointer()
			l = append(l, memory{from, from + uintptr(v.Cap())*v.Type().Elem().Size()})
		}
		for i := range v.Len() {
			l = append(l, memories(v.Index(i))...)
		}
	case reflect.Struct:
		for i := range v.NumField() {
			l = append(l, memories(v.Field(i))...)
		}
	}
	return l
}

// P2: no two lists of one result share memory, nor do those of two results.
func TestListsApart(t *testing.T) {
	for _, l := range append(someProtocols(123, 300), withItems(items()...), withItems(deep(10))) {
		s := printed(t, l)
		results := [][]syntax.Protocol{parsed(t, s), parsed(t, s)}
		all := memories(reflect.ValueOf(results))
		slices.SortFunc(all, func(a, b memory) int { return cmp.Compare(a.from, b.from) })
		for i := 1; i < len(all); i++ {
			if all[i-1].to > all[i].from {
				t.Fatalf("lists share memory in %.2000s", dump(l))
			}
		}
		runtime.KeepAlive(results)
	}
}

// overwrite writes to all places of all lists in a value, up to their capacities.
func overwrite(v reflect.Value) {
	switch v.Kind() {
	case reflect.Slice:
		v = v.Slice(0, v.Cap())
		for i := range v.Len() {
			overwrite(v.Index(i))
		}
	case reflect.Struct:
		for i := range v.NumField() {
			overwrite(v.Field(i))
		}
	case reflect.String:
		v.SetString("overwritten")
	case reflect.Int:
		v.SetInt(-7)
	}
}

// P2: a change of a result does not change another one.
func TestResultsApart(t *testing.T) {
	for _, l := range append(someProtocols(124, 300), withItems(items()...)) {
		s := printed(t, l)
		first, second := parsed(t, s), parsed(t, s)
		overwrite(reflect.ValueOf(&first).Elem())
		equal(t, l, second)
		equal(t, l, parsed(t, s))
	}
}

// P2: arguments are not modified, also not in their capacities.
func TestArgumentsStay(t *testing.T) {
	g := newGrower(125)
	for _, l := range append(someProtocols(126, 300), withItems(items()...), nil) {
		for _, l := range [][]syntax.Protocol{l, shaken(g, l)} {
			a, b := full(l), full(l)
			want := dump(wholeOf(a))
			syntax.Valid(a)
			syntax.Print(a)
			syntax.Equal(a, b)
			if dump(wholeOf(a)) != want || dump(wholeOf(b)) != want || dump(a) != dump(l) || len(want) <= len(dump(l)) {
				t.Fatalf("%.2000s is changed", dump(l))
			}
		}
	}
}

// wholeOf returns copies of all lists up to their capacities.
func wholeOf(l []syntax.Protocol) []syntax.Protocol {
	l = slices.Clone(l[:cap(l)])
	for i, p := range l {
		l[i].Roles = p.Roles[:cap(p.Roles)]
		l[i].Messages = slices.Clone(p.Messages[:cap(p.Messages)])
		for j, m := range l[i].Messages {
			l[i].Messages[j].Fields = m.Fields[:cap(m.Fields)]
			l[i].Messages[j].Where = m.Where[:cap(m.Where)]
		}
		l[i].Body = wholeOfItems(p.Body)
	}
	return l
}

func wholeOfItems(l []syntax.Item) []syntax.Item {
	l = slices.Clone(l[:cap(l)])
	for i, x := range l {
		l[i].To = x.To[:cap(x.To)]
		l[i].Blocks = slices.Clone(x.Blocks[:cap(x.Blocks)])
		for j, block := range l[i].Blocks {
			l[i].Blocks[j] = wholeOfItems(block)
		}
	}
	return l
}

// P2: the memory of a source, or of texts in protocols, is neither changed nor part of a result.
func TestSourceMemory(t *testing.T) {
	for _, l := range append(someProtocols(127, 300), withItems(items()...)) {
		s := printed(t, l)
		if s == "" {
			continue
		}
		bytes := []byte(s)
		source := unsafe.String(&bytes[0], len(bytes))
		again := parsed(t, source)
		if string(bytes) != s {
			t.Fatalf("%.2000q is changed to %.2000q", s, bytes)
		}
		for i := range bytes {
			bytes[i] = '?'
		}
		equal(t, l, again)
	}
	bytes := []byte("P")
	l := withItems()
	l[0].Name = unsafe.String(&bytes[0], 1)
	s := printed(t, l)
	bytes[0] = 'Q'
	if s != "protocol P(A, B) {\n}\n" {
		t.Errorf("%q is changed with the name", s)
	}
}

// P3: the same calls lead to the same results, whatever was called in between.
func TestSameAgain(t *testing.T) {
	all := append(someProtocols(128, 500), nil)
	g := newGrower(129)
	for i, l := range all {
		if i%2 == 0 {
			all[i] = shaken(g, l)
		}
	}
	var first []string
	for i, l := range all {
		first = append(first, answersOf(l, all[len(all)-1-i]))
	}
	for i, l := range slices.Backward(all) {
		if again := answersOf(l, all[len(all)-1-i]); again != first[i] {
			t.Fatalf("%.2000s, then %.2000s", first[i], again)
		}
	}
}

// answersOf returns what all functions return.
func answersOf(l, other []syntax.Protocol) string {
	s, e := syntax.Print(l)
	read, at, err := syntax.Parse(s + "protocol" + s)
	valid, equal := syntax.Valid(l), syntax.Equal(l, other)
	return s + dump(read) + strconv.FormatBool(valid) + strconv.FormatBool(equal) + dumpNumbers(int(e), at, int(err))
}

func FuzzParse(f *testing.F) {
	for _, s := range samples() {
		f.Add(s, samples()[0])
	}
	random := rand.New(rand.NewSource(130))
	for _, l := range someProtocols(131, 20) {
		f.Add(formatted(tokensOf(l)), strings.Join(vocabulary()[random.Intn(20):], " "))
	}
	r := grammarRules()
	f.Fuzz(func(t *testing.T, a, b string) {
		for _, s := range []string{a, b, a + b, a + "\n" + b, "protocol P(A){" + a + "}", "protocol P(A){message m(" + b + ")where " + a + ";}"} {
			compare(t, r, s)
			if syntax.IsPath(s) != isPath(s) {
				t.Errorf("%q", s)
			}
		}
		l, _, _ := syntax.Parse(a)
		other, _, _ := syntax.Parse(b)
		if got := syntax.Equal(l, other); got != (dump(l) == dump(other)) {
			t.Errorf("%v for %q and %q", got, a, b)
		}
		judges(t, l, true)
	})
}
