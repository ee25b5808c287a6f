package names_test

import (
	"reflect"
	"slices"
	"strings"
	"testing"

	"farandole/api"
	"farandole/names"
	"farandole/syntax"
)

// P11.2: there is a problem in each order of the protocols, or in none.
func TestOrder(t *testing.T) {
	g := newGrower(11)
	found := map[bool]int{}
	for range 1500 {
		l := g.protocols()
		for range g.Intn(3) {
			g.change(&l)
		}
		want := names.Check(l).Err == api.OK
		found[want]++
		for range 6 {
			g.Shuffle(len(l), func(i, j int) { l[i], l[j] = l[j], l[i] })
			if got := names.Check(l); (got.Err == api.OK) != want {
				t.Fatalf("%v in another order for\n%.3000s", got, dump(l))
			}
		}
	}
	if found[true] < 300 || found[false] < 300 {
		t.Error(found)
	}
	for _, s := range []string{"protocol P(A) { } protocol P(A) { }", chain("P", "Q", "R", "S", "T", "U") + "protocol U(A) { }", chain("P", "Q", "R", "S", "T") + "protocol T(A) { }", chain("P", "Q", "P"), chain("P", "Q")} {
		l := parsed(t, s)
		want := names.Check(l).Err == api.OK
		for range 50 {
			g.Shuffle(len(l), func(i, j int) { l[i], l[j] = l[j], l[i] })
			if got := names.Check(l); (got.Err == api.OK) != want {
				t.Errorf("%v in another order for %s", got, s)
			}
		}
	}
}

// renamed returns a protocol with another name for a role, a loop or a message.
func renamed(p syntax.Protocol, what, old, name string) syntax.Protocol {
	p = copyOf(p)
	to := func(s string) string {
		if s == old {
			return name
		}
		return s
	}
	if what == "role" {
		for i := range p.Roles {
			p.Roles[i] = to(p.Roles[i])
		}
	}
	if what == "message" {
		for i := range p.Messages {
			m := &p.Messages[i]
			m.Name = to(m.Name)
			for j := range m.Where {
				m.Where[j].Left.Message = to(m.Where[j].Left.Message)
				m.Where[j].Right.Message = to(m.Where[j].Right.Message)
			}
		}
	}
	renameItems(p.Body, what, to)
	return p
}

func renameItems(l []syntax.Item, what string, to func(s string) string) {
	for i := range l {
		x := &l[i]
		switch {
		case what == "role":
			x.From = to(x.From)
			for j := range x.To {
				x.To[j] = to(x.To[j])
			}
		case what == "message" && x.Kind == syntax.Send, what == "loop" && (x.Kind == syntax.Loop || x.Kind == syntax.Again):
			x.Name = to(x.Name)
		}
		for _, b := range x.Blocks {
			renameItems(b, what, to)
		}
	}
}

// P11.3: a role, a loop or a message with a new name makes no problem.
func TestNames(t *testing.T) {
	g := newGrower(12)
	for range 600 {
		l := g.protocols()
		for i, p := range l {
			old := map[string][]string{"role": p.Roles}
			for _, m := range p.Messages {
				old["message"] = append(old["message"], m.Name)
			}
			for _, x := range placesOf(p.Body, nil) {
				if x.Kind == syntax.Loop {
					old["loop"] = append(old["loop"], x.Name)
				}
			}
			for what, texts := range old {
				name := "z9"
				if what != "role" {
					name = pick(g, "z9", "z9.m", "A.z9")
				}
				for _, text := range texts {
					again := slices.Clone(l)
					again[i] = renamed(p, what, text, name)
					if got := names.Check(again); got != (names.Problem{}) || reflect.DeepEqual(again, l) {
						t.Fatalf("%v with %s for the %s %s of\n%.3000s", got, name, what, text, dump(l))
					}
				}
			}
		}
	}
}

// P11.4: a protocol without calls may stand alone, and one that nobody calls may be left out.
func TestParts(t *testing.T) {
	g := newGrower(13)
	for range 600 {
		l := g.protocols()
		m := &model{all: l}
		for i, p := range l {
			alone := names.Check(l[i : i+1])
			if called := m.calls(p.Name); len(called) == 0 && alone != (names.Problem{}) {
				t.Fatalf("%v alone for\n%.3000s", alone, dump(p))
			} else if len(called) > 0 && alone.Err != api.ErrName {
				t.Fatalf("%v alone for a protocol that calls %s", alone, strings.Join(called, ", "))
			}
			isCalled := slices.ContainsFunc(l, func(q syntax.Protocol) bool { return slices.Contains(m.calls(q.Name), p.Name) })
			rest := names.Check(slices.Delete(slices.Clone(l), i, i+1))
			if !isCalled && rest != (names.Problem{}) || isCalled && (rest.Err != api.ErrName || rest.Name != p.Name) {
				t.Fatalf("%v without %s for\n%.3000s", rest, p.Name, dump(l))
			}
		}
	}
}
