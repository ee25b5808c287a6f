package names_test

import (
	"slices"
	"testing"

	"farandole/api"
	"farandole/names"
	"farandole/syntax"
)

// P11.1: protocols without problems have none, and those with some random changes have what the model says.
func TestRandomProtocols(t *testing.T) {
	g := newGrower(1)
	found := map[api.Errno]int{}
	for range 3000 {
		l := g.protocols()
		if got := names.Check(l); got != (names.Problem{}) {
			t.Fatalf("%v for\n%.3000s", got, dump(l))
		}
		check(t, l)
		for range 5 {
			changed := copyOf(l)
			for range 1 + g.Intn(3) {
				g.change(&changed)
			}
			found[check(t, changed)]++
		}
	}
	for _, e := range []api.Errno{api.OK, api.ErrArg, api.ErrRange, api.ErrState, api.ErrLimit, api.ErrExist, api.ErrName, api.ErrType, api.ErrRole} {
		if found[e] < 5 {
			t.Errorf("only %d protocols with %s", found[e], e.Name())
		}
	}
}

// P11.1: Takes for the items of random protocols, and for items that are not valid.
func TestRandomTakes(t *testing.T) {
	g := newGrower(2)
	for range 3000 {
		for _, p := range g.protocols() {
			roles := append(g.some(0, 8, "A", "B", "C", "D", "E", "F", "P", "m", ""), g.some(0, 3, "A", "B", "C", "D")...)
			takes(t, roles, p.Body)
			takes(t, p.Roles, p.Body)
			for range 2 + g.Intn(8) {
				g.change(&p.Body)
			}
			takes(t, roles, p.Body)
			for _, x := range placesOf(p.Body, nil) {
				takes(t, roles, []syntax.Item{x.Item})
			}
			takes(t, roles, shaken(g, p.Body))
		}
	}
}

// shaken returns items of other kinds, with something in all of their fields.
func shaken(g *grower, l []syntax.Item) []syntax.Item {
	l = slices.Clone(l)
	for i := range l {
		for j, b := range l[i].Blocks {
			b = shaken(g, b)
			l[i].Blocks = slices.Clone(l[i].Blocks)
			l[i].Blocks[j] = b
		}
		l[i].Kind = g.Intn(9) - 1
		l[i].From = pick(g, "A", "B", "C", "")
		l[i].To = g.some(0, 3, "A", "B", "D", "E", "")
		l[i].Name = pick(g, "A", "B", "F", "")
		l[i].As = pick(g, "A", "B", "F", "")
	}
	return l
}
