package expand_test

import (
	"fmt"
	"math/rand"
	"reflect"
	"slices"
	"strconv"
	"strings"
	"testing"

	"farandole/api"
	"farandole/names"
	"farandole/syntax"
)

// grower writes the sources of random protocols.
type grower struct {
	*rand.Rand
	plain    bool // without calls and parallel branches
	calls    int  // those of the protocol so far
	messages []string
	called   []callee
}

// callee is a protocol that may be called.
type callee struct {
	name  string
	roles int
}

func newGrower(seed int64) *grower { return &grower{Rand: rand.New(rand.NewSource(seed))} }

// pick returns one of a list.
func pick[T any](g *grower, l ...T) T { return l[g.Intn(len(l))] }

// some returns least to most of the texts of a list, in a random order.
func (g *grower) some(least, most int, l ...string) []string {
	l = slices.Clone(l)
	g.Shuffle(len(l), func(i, j int) { l[i], l[j] = l[j], l[i] })
	return l[:min(len(l), least+g.Intn(most-least+1))]
}

// protocols returns one to five protocols without problems, in a random order.
func (g *grower) protocols(t *testing.T) []syntax.Protocol {
	t.Helper()
	for {
		g.called = nil
		var l []string
		for _, name := range g.some(1, 5, "P", "Q", "R", "A", "m") {
			l = append(l, g.protocol(name))
		}
		g.Shuffle(len(l), func(i, j int) { l[i], l[j] = l[j], l[i] })
		p, _, e := syntax.Parse(strings.Join(l, ""))
		if e == api.ErrLimit {
			continue
		}
		if problem := names.Check(p); e != api.OK || problem != (names.Problem{}) {
			t.Fatalf("%s and %v for %s", e.Name(), problem, strings.Join(l, ""))
		}
		return p
	}
}

// protocol returns a protocol that may call those ahead.
func (g *grower) protocol(name string) string {
	roles := g.some(1, 6, "A", "B", "C", "D", "E", "P", "m")
	g.messages = g.some(0, 4, "m", "n", "m.n", "c1.m", "c2.n", "L")
	if g.Intn(6) == 0 {
		for i := range 14 {
			g.messages = append(g.messages, "x"+strconv.Itoa(i))
		}
	}
	g.calls = 0
	s := "protocol " + name + "(" + strings.Join(roles, ", ") + ") {"
	for i := range g.messages {
		s += g.message(i)
	}
	s += g.block(roles, loops{}, pick(g, 1, 2, 3, 4, 6)) + "}\n"
	g.called = append(g.called, callee{name, len(roles)})
	return s
}

func (g *grower) message(i int) string {
	s := fmt.Sprintf("message %s(x: int %d..5, y: text %d..40", g.messages[i], g.Intn(6), g.Intn(41))
	if g.Intn(2) == 0 {
		s += ", m: int -1000..-7"
	}
	s += ")"
	of := func() string { return pick(g, "", "", pick(g, g.messages...)+".") }
	number := func() string {
		return pick(g, "-3", "7", of()+"x", of()+"x + 2", of()+"x - 1", "len("+of()+"y)", "len("+of()+"y) + 999")
	}
	for j := range pick(g, 0, 0, 1, 2, 6) {
		s += []string{" where ", " and "}[min(j, 1)]
		if g.Intn(3) == 0 {
			s += of() + "y == " + of() + "y"
		} else {
			s += number() + pick(g, "<", "<=", "==", ">=", ">") + number()
		}
	}
	return s + ";"
}

// loops are the names of the loops around a block, and of those that may begin again behind its last item.
type loops struct{ around, again []string }

// block returns items for some roles, none of which is deeper than the given depth.
func (g *grower) block(roles []string, in loops, depth int) string {
	s := ""
	n := pick(g, 0, 1, 1, 2, 2, 3)
	for i := range n {
		inside := loops{around: in.around}
		if i == n-1 {
			inside.again = in.again
		}
		s += g.item(roles, inside, depth)
	}
	return s
}

// item returns an item for some roles, or none.
func (g *grower) item(roles []string, in loops, depth int) string {
	switch kind := 1 + g.Intn(6); {
	case kind == syntax.Send && len(roles) > 1 && len(g.messages) > 0:
		l := g.some(2, 6, roles...)
		return l[0] + " -> " + strings.Join(l[1:], ", ") + ": " + pick(g, g.messages...) + ";"
	case kind == syntax.Choice && depth > 1 && len(roles) > 0:
		l := []string{g.block(roles, in, depth-1)}
		for len(l) < 8 && g.Intn(2) == 0 {
			l = append(l, g.block(roles, in, depth-1))
		}
		head, rest := "choice at "+pick(g, roles...), "}"
		if len(l) < 8 && g.Intn(2) == 0 {
			head, rest = head+" within 7", "} else {"+g.block(roles, in, depth-1)+"}"
		}
		return head + "{" + strings.Join(l, "} or {") + rest
	case kind == syntax.Loop && depth > 1:
		name := pick(g, "L", "M", "c1.L", "c2.M", "m.n")
		if slices.Contains(in.around, name) {
			return ""
		}
		in = loops{append(slices.Clone(in.around), name), append(slices.Clone(in.again), name)}
		return "loop " + name + "{" + g.block(roles, in, depth-1) + "}"
	case kind == syntax.Again && len(in.again) > 0:
		return "again " + pick(g, in.again...) + ";"
	case kind == syntax.Par && depth > 1 && !g.plain:
		return g.parallel(roles, in, depth)
	case kind == syntax.Call && len(g.called) > 0 && !g.plain:
		return g.call(roles)
	}
	return ""
}

// parallel returns parallel branches, mostly with roles of their own.
func (g *grower) parallel(roles []string, in loops, depth int) string {
	in.again = nil
	parts := make([][]string, pick(g, 2, 2, 3))
	for _, role := range roles {
		at := g.Intn(len(parts))
		parts[at] = append(parts[at], role)
	}
	if g.Intn(3) == 0 {
		parts[0] = roles
	}
	var l []string
	for _, part := range parts {
		l = append(l, "{"+g.block(part, in, depth-1)+"}")
	}
	return "par " + strings.Join(l, " and ")
}

// call returns a call by some of the roles, or nothing.
func (g *grower) call(roles []string) string {
	q := pick(g, g.called...)
	if q.roles > len(roles) {
		return ""
	}
	g.calls++
	return fmt.Sprintf("call %s(%s) as c%d;", q.name, strings.Join(g.some(q.roles, q.roles, roles...), ","), g.calls)
}

// change changes a text, a number or the elements of a list, anywhere in protocols.
func (g *grower) change(l *[]syntax.Protocol) {
	var texts, others []reflect.Value
	var visit func(v reflect.Value)
	visit = func(v reflect.Value) {
		switch v.Kind() {
		case reflect.Slice:
			if v.Len() > 0 {
				others = append(others, v)
			}
			for i := range v.Len() {
				visit(v.Index(i))
			}
		case reflect.Struct:
			for i := range v.NumField() {
				visit(v.Field(i))
			}
		case reflect.String:
			texts = append(texts, v)
		case reflect.Int:
			others = append(others, v)
		}
	}
	visit(reflect.ValueOf(l).Elem())
	if len(texts) == 0 || len(others) == 0 {
		return
	}
	if g.Intn(2) == 0 {
		pick(g, texts...).SetString(pick(g, texts...).String())
		return
	}
	switch v := pick(g, others...); v.Kind() {
	case reflect.Int:
		v.SetInt(v.Int() + pick(g, int64(1), -1, 41))
	case reflect.Slice:
		i, n := g.Intn(v.Len()), v.Len()
		x := v.Slice3(i, i+1, i+1)
		v.Set(pick(g, reflect.AppendSlice(v.Slice3(0, i, i), v.Slice(i+1, n)), reflect.AppendSlice(v.Slice3(0, n, n), x)))
	}
}

// copyOf returns a copy of a value in memory of its own, of which each list has further elements in its capacity.
func copyOf[T any](x T) T {
	return copied(x, func(l reflect.Value) (part reflect.Value, room int) { return l, 2 })
}

// copied returns a copy of a value in memory of its own, in which a function tells what part of each list is left, and how much room is behind it.
func copied[T any](x T, left func(l reflect.Value) (part reflect.Value, room int)) T {
	var visit func(v reflect.Value)
	visit = func(v reflect.Value) {
		switch v.Kind() {
		case reflect.Slice:
			part, room := left(v)
			l := reflect.MakeSlice(v.Type(), part.Len(), part.Len()+room)
			reflect.Copy(l, part)
			for i := range l.Len() {
				visit(l.Index(i))
			}
			v.Set(l)
		case reflect.Struct:
			for i := range v.NumField() {
				visit(v.Field(i))
			}
		case reflect.String:
			v.SetString(strings.Clone(v.String()))
		}
	}
	visit(reflect.ValueOf(&x).Elem())
	return x
}
