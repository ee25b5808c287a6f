package syntax_test

import (
	"reflect"
	"testing"

	"farandole/syntax"
)

// unequal tests that protocols are not equal, whichever come first.
func unequal(t *testing.T, a, b []syntax.Protocol) {
	t.Helper()
	if dump(a) == dump(b) || syntax.Equal(a, b) || syntax.Equal(b, a) {
		t.Fatalf("equal: %.2000s and %.2000s", dump(a), dump(b))
	}
}

// equal tests that protocols are equal, whichever come first.
func equal(t *testing.T, a, b []syntax.Protocol) {
	t.Helper()
	if dump(a) != dump(b) || !syntax.Equal(a, b) || !syntax.Equal(b, a) {
		t.Fatalf("not equal: %.2000s and %.2000s", dump(a), dump(b))
	}
}

// eachChange makes each possible change of one string, number or list in a value, calls a function, and takes the change back.
func eachChange(v reflect.Value, call func()) {
	switch v.Kind() {
	case reflect.String:
		old := v.String()
		for _, s := range []string{old + "a", "", "b" + old, "é\x00"} {
			if s != old {
				v.SetString(s)
				call()
			}
		}
		v.SetString(old)
	case reflect.Int:
		old := v.Int()
		for _, n := range []int64{old + 1, old - 1, -old - 1, old + 1<<32} {
			v.SetInt(n)
			call()
		}
		v.SetInt(old)
	case reflect.Struct:
		for i := range v.NumField() {
			eachChange(v.Field(i), call)
		}
	case reflect.Slice:
		eachChangeOfList(v, call)
	}
}

// eachChangeOfList changes the length of a list, and its elements.
func eachChangeOfList(v reflect.Value, call func()) {
	old := reflect.ValueOf(v.Interface())
	longer := reflect.MakeSlice(v.Type(), v.Len()+1, v.Len()+1)
	reflect.Copy(longer, old)
	v.Set(longer)
	call()
	if old.Len() > 0 {
		for _, shorter := range []reflect.Value{old.Slice(0, old.Len()-1), old.Slice(1, old.Len()), old.Slice(0, 0)} {
			v.Set(shorter)
			call()
		}
	}
	v.Set(old)
	for i := range v.Len() {
		eachChange(v.Index(i), call)
	}
}

// P10.1: Equal, where anything at all differs.
func TestUnequal(t *testing.T) {
	var all []syntax.Protocol
	for _, s := range samples() {
		l, _, _ := syntax.Parse(s)
		all = append(all, l...)
	}
	for _, l := range append(someProtocols(107, 30), all, withItems(items()...), []syntax.Protocol{{}}, withItems(syntax.Item{}), withTerm(syntax.Term{}), nil) {
		if len(dump(l)) > 5000 {
			continue
		}
		changed := copyOf(l)
		changes := 0
		eachChange(reflect.ValueOf(&changed).Elem(), func() {
			changes++
			unequal(t, l, changed)
		})
		equal(t, l, changed)
		if changes == 0 {
			t.Fatalf("no changes of %.2000s", dump(l))
		}
	}
}

// P10.1: Equal, for protocols, messages, fields, atoms and items in another order.
func TestOrderMatters(t *testing.T) {
	a, _, _ := syntax.Parse("protocol P(A,B){message m(x:int 1..2,y:int 3..4)where x<1 and y<2;message n();A->B,C:m;A->B:n;choice at A{again L;}or{}}protocol Q(A){}")
	for _, s := range []string{
		"protocol Q(A){}protocol P(A,B){message m(x:int 1..2,y:int 3..4)where x<1 and y<2;message n();A->B,C:m;A->B:n;choice at A{again L;}or{}}",
		"protocol P(B,A){message m(x:int 1..2,y:int 3..4)where x<1 and y<2;message n();A->B,C:m;A->B:n;choice at A{again L;}or{}}protocol Q(A){}",
		"protocol P(A,B){message n();message m(x:int 1..2,y:int 3..4)where x<1 and y<2;A->B,C:m;A->B:n;choice at A{again L;}or{}}protocol Q(A){}",
		"protocol P(A,B){message m(y:int 3..4,x:int 1..2)where x<1 and y<2;message n();A->B,C:m;A->B:n;choice at A{again L;}or{}}protocol Q(A){}",
		"protocol P(A,B){message m(x:int 1..2,y:int 3..4)where y<2 and x<1;message n();A->B,C:m;A->B:n;choice at A{again L;}or{}}protocol Q(A){}",
		"protocol P(A,B){message m(x:int 1..2,y:int 3..4)where 1<x and y<2;message n();A->B,C:m;A->B:n;choice at A{again L;}or{}}protocol Q(A){}",
		"protocol P(A,B){message m(x:int 1..2,y:int 3..4)where x<1 and y<2;message n();A->C,B:m;A->B:n;choice at A{again L;}or{}}protocol Q(A){}",
		"protocol P(A,B){message m(x:int 1..2,y:int 3..4)where x<1 and y<2;message n();A->B:n;A->B,C:m;choice at A{again L;}or{}}protocol Q(A){}",
		"protocol P(A,B){message m(x:int 1..2,y:int 3..4)where x<1 and y<2;message n();A->B,C:m;A->B:n;choice at A{}or{again L;}}protocol Q(A){}",
		"protocol P(A,B){message m(x:int 1..2,y:int 3..4)where x<1 and y<2;message n();A->B,C:m;A->B:n;choice at A{again L;}or{}}protocol Q(A){}protocol Q(A){}",
	} {
		b, _, e := syntax.Parse(s)
		if e != 0 {
			t.Fatal(s, e)
		}
		unequal(t, a, b)
	}
	// Blocks of the same items in other places.
	m, n := []syntax.Item{send("m")}, []syntax.Item{send("n")}
	for _, c := range [][2]syntax.Item{{par(m, n), par(n, m)}, {par(m, nil), par(nil, m)}, {par(m, m), par(m)}, {choice(0, m, n), choice(5, m, n)}, {choice(0, m, n), par(m, n)}, {loop(m[0], n[0]), loop(n[0], m[0])}, {par([]syntax.Item{loop(m[0])}, n), par([]syntax.Item{loop(n[0])}, m)}, {par(append(m[:1:1], n...), nil), par(m, n)}} {
		unequal(t, withItems(c[0]), withItems(c[1]))
		unequal(t, withItems(c[0], c[1]), withItems(c[1], c[0]))
		unequal(t, withItems(c[0], c[0]), withItems(c[0], c[1]))
		equal(t, withItems(c[0], c[1], c[0]), copyOf(withItems(c[0], c[1], c[0])))
	}
}

// full returns a copy of protocols in which no list is nil, and each has room for two more elements.
func full(l []syntax.Protocol) []syntax.Protocol {
	l = copyOf(l)
	fill(reflect.ValueOf(&l).Elem())
	return l
}

func fill(v reflect.Value) {
	switch v.Kind() {
	case reflect.Slice:
		roomy := reflect.MakeSlice(v.Type(), v.Len(), v.Len()+2)
		reflect.Copy(roomy, v)
		v.Set(roomy)
		for i := range v.Len() {
			fill(v.Index(i))
		}
	case reflect.Struct:
		for i := range v.NumField() {
			fill(v.Field(i))
		}
	}
}

// P10.1: nil and empty lists are equal, everywhere.
func TestEmptyLists(t *testing.T) {
	equal(t, nil, []syntax.Protocol{})
	equal(t, []syntax.Protocol{{}}, []syntax.Protocol{{Roles: []string{}, Messages: []syntax.Message{}, Body: []syntax.Item{}}})
	for _, l := range append(someProtocols(108, 300), withItems(items()...), withItems(syntax.Item{}), withMessages(syntax.Message{}), nil) {
		equal(t, l, full(l))
		equal(t, full(l), full(l))
		judges(t, full(l), validity(l))
	}
}

// P10.1: Equal, for random protocols, valid or not.
func TestEqual(t *testing.T) {
	g := newGrower(109)
	all := someProtocols(110, 400)
	for i, l := range all {
		changed := shaken(g, l)
		if got, want := syntax.Equal(l, changed), dump(l) == dump(changed); got != want || syntax.Equal(changed, l) != want {
			t.Fatalf("%v for %.2000s and %.2000s", got, dump(l), dump(changed))
		}
		equal(t, changed, copyOf(changed))
		if other := all[g.Intn(len(all))]; dump(l) != dump(other) {
			unequal(t, l, other)
		}
		both := append(copyOf(l), all[len(all)-1-i]...)
		equal(t, both, copyOf(both))
		if len(l) > 0 {
			unequal(t, both, all[len(all)-1-i])
		}
	}
}
