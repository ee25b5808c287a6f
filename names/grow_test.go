package names_test

import (
	"fmt"
	"maps"
	"math/rand"
	"reflect"
	"slices"
	"strconv"
	"strings"

	"farandole/api"
	"farandole/syntax"
)

// dump writes everything in protocols or items; nil and empty lists are equal.
func dump(x any) string { return fmt.Sprintf("%+v", x) }

// grower makes random protocols.
type grower struct {
	*rand.Rand
	calls int // those of the protocol so far
}

func newGrower(seed int64) *grower { return &grower{Rand: rand.New(rand.NewSource(seed))} }

// pick returns one of a list.
func pick[T any](g *grower, l ...T) T { return l[g.Intn(len(l))] }

// some returns least to most of the texts of a list, in a random order.
func (g *grower) some(least, most int, l ...string) []string {
	g.Shuffle(len(l), func(i, j int) { l[i], l[j] = l[j], l[i] })
	return l[:min(len(l), least+g.Intn(most-least+1))]
}

// protocols returns up to five protocols without problems, in a random order.
func (g *grower) protocols() []syntax.Protocol {
	for {
		var l []syntax.Protocol
		for _, name := range g.some(0, 5, "P", "Q", "R", "A", "m") {
			l = append(l, g.protocol(name, l))
		}
		g.Shuffle(len(l), func(i, j int) { l[i], l[j] = l[j], l[i] })
		if syntax.Valid(l) {
			return l
		}
	}
}

// protocol returns a protocol that calls some of the given ones.
func (g *grower) protocol(name string, called []syntax.Protocol) syntax.Protocol {
	p := syntax.Protocol{Name: name, Roles: g.some(1, 6, "A", "B", "C", "D", "E", "F", "P", "m")}
	for _, name := range g.some(0, 4, "m", "n", "m.n", "x", "A", "L", "P") {
		p.Messages = append(p.Messages, g.message(name))
	}
	for i := range p.Messages {
		for range pick(g, 0, 0, 1, 2, 6) {
			p.Messages[i].Where = append(p.Messages[i].Where, g.atom(p, i))
		}
	}
	g.calls = 0
	p.Body = g.block(p, called, loops{}, pick(g, 1, 2, 3, 5))
	return p
}

func (g *grower) message(name string) syntax.Message {
	m := syntax.Message{Name: name}
	for _, name := range g.some(0, 4, "x", "y", "z", "m", "n") {
		s := api.Sort{Kind: api.SortInt, Lo: pick(g, -1000, -7, 0, 3)}
		s.Hi = s.Lo + g.Intn(1001-s.Lo)
		if g.Intn(2) == 0 {
			s = api.Sort{Kind: api.SortText, Lo: pick(g, 0, 0, 3, 40)}
			s.Hi = s.Lo + g.Intn(41-s.Lo)
		}
		m.Fields = append(m.Fields, api.Field{Name: name, Sort: s})
	}
	return m
}

// atom returns an atom for a message of a protocol: a comparison of numbers, or of two texts.
func (g *grower) atom(p syntax.Protocol, at int) syntax.Atom {
	numbers := []syntax.Term{{Kind: syntax.Const, N: pick(g, -5, 0, 999999)}}
	var texts []syntax.Term
	for i, m := range p.Messages {
		if i == at && g.Intn(2) == 0 {
			m.Name = ""
		}
		for _, f := range m.Fields {
			if f.Sort.Kind == api.SortText {
				texts = append(texts, syntax.Term{Kind: syntax.Ref, Message: m.Name, Field: f.Name})
				numbers = append(numbers, syntax.Term{Kind: syntax.Len, Message: m.Name, Field: f.Name, N: pick(g, 0, 1, -2)})
			} else {
				numbers = append(numbers, syntax.Term{Kind: syntax.Ref, Message: m.Name, Field: f.Name, N: pick(g, 0, 1, -2)})
			}
		}
	}
	if len(texts) > 0 && g.Intn(2) == 0 {
		return syntax.Atom{Left: pick(g, texts...), Op: "==", Right: pick(g, texts...)}
	}
	return syntax.Atom{Left: pick(g, numbers...), Op: pick(g, "<", "<=", "==", ">=", ">"), Right: pick(g, numbers...)}
}

// loops are the names of the loops around a block, and of those that may begin again behind its last item.
type loops struct{ around, again []string }

// block returns items, none of which is deeper than the given depth.
func (g *grower) block(p syntax.Protocol, called []syntax.Protocol, in loops, depth int) []syntax.Item {
	var l []syntax.Item
	n := pick(g, 0, 1, 1, 2, 2, 4)
	for i := range n {
		inside := loops{around: in.around}
		if i == n-1 {
			inside.again = in.again
		}
		if x := g.item(p, called, inside, depth); x.Kind != 0 {
			l = append(l, x)
		}
	}
	return l
}

// item returns an item, or one of no kind.
func (g *grower) item(p syntax.Protocol, called []syntax.Protocol, in loops, depth int) syntax.Item {
	blocks := func(n int) [][]syntax.Item {
		l := make([][]syntax.Item, n)
		for i := range l {
			l[i] = g.block(p, called, in, depth-1)
		}
		return l
	}
	switch kind := 1 + g.Intn(6); {
	case kind == syntax.Send && len(p.Roles) > 1 && len(p.Messages) > 0:
		l := g.some(2, 6, slices.Clone(p.Roles)...)
		return syntax.Item{Kind: kind, From: l[0], To: l[1:], Name: pick(g, p.Messages...).Name}
	case kind == syntax.Choice && depth > 1:
		ticks := pick(g, 0, 0, 7)
		return syntax.Item{Kind: kind, From: pick(g, p.Roles...), Ticks: ticks, Blocks: blocks(pick(g, 2, 2, 3))}
	case kind == syntax.Loop && depth > 1:
		name := pick(g, "L", "M", "N", "A", "m.n")
		if slices.Contains(in.around, name) {
			return syntax.Item{}
		}
		in = loops{append(slices.Clone(in.around), name), append(slices.Clone(in.again), name)}
		return syntax.Item{Kind: kind, Name: name, Blocks: blocks(1)}
	case kind == syntax.Again && len(in.again) > 0:
		return syntax.Item{Kind: kind, Name: pick(g, in.again...)}
	case kind == syntax.Par && depth > 1:
		in.again = nil
		return syntax.Item{Kind: kind, Blocks: blocks(pick(g, 2, 2, 3))}
	case kind == syntax.Call && len(called) > 0:
		q := pick(g, called...)
		if len(q.Roles) > len(p.Roles) {
			return syntax.Item{}
		}
		g.calls++
		return syntax.Item{Kind: kind, Name: q.Name, To: g.some(len(q.Roles), len(q.Roles), slices.Clone(p.Roles)...), As: "A" + strconv.Itoa(g.calls)}
	}
	return syntax.Item{}
}

// parts are all lists and numbers of a value, and its texts by the names of their fields; the kinds and texts that are not used are left out.
type parts struct {
	lists, numbers []reflect.Value
	texts          map[string][]reflect.Value
}

func (l *parts) add(v reflect.Value, field string) {
	switch v.Kind() {
	case reflect.Slice:
		if v.Len() > 0 {
			l.lists = append(l.lists, v)
		}
		for i := range v.Len() {
			l.add(v.Index(i), field)
		}
	case reflect.Struct:
		for i := range v.NumField() {
			l.add(v.Field(i), v.Type().Name()+v.Type().Field(i).Name)
		}
	case reflect.String:
		if v.String() != "" {
			l.texts[field] = append(l.texts[field], v)
		}
	case reflect.Int:
		if !strings.HasSuffix(field, "Kind") && !strings.HasSuffix(field, "Ticks") {
			l.numbers = append(l.numbers, v)
		}
	}
}

func partsOf(p any) *parts {
	l := &parts{texts: map[string][]reflect.Value{}}
	l.add(reflect.ValueOf(p).Elem(), "")
	return l
}

// change changes a text to one of another place, a number, or the elements of a list.
func (g *grower) change(p any) {
	l := partsOf(p)
	if len(l.lists) == 0 || len(l.texts) == 0 {
		return
	}
	switch kind := g.Intn(6); {
	case kind < 3:
		fields := slices.Sorted(maps.Keys(l.texts))
		field := pick(g, fields...)
		other := field
		if kind == 0 {
			other = pick(g, fields...)
		}
		pick(g, l.texts[field]...).SetString(pick(g, l.texts[other]...).String())
	case kind == 3 && len(l.numbers) > 0:
		v := pick(g, l.numbers...)
		v.SetInt(v.Int() + pick(g, int64(1), -1, 41, -1001))
	default:
		g.changeList(pick(g, l.lists...))
	}
}

// changeList changes the places of two elements, or leaves one out, or adds one.
func (g *grower) changeList(v reflect.Value) {
	i, j := g.Intn(v.Len()), g.Intn(v.Len())
	a, b := reflect.ValueOf(v.Index(i).Interface()), reflect.ValueOf(v.Index(j).Interface())
	switch g.Intn(3) {
	case 0:
		v.Index(i).Set(b)
		v.Index(j).Set(a)
	case 1:
		v.Set(reflect.AppendSlice(v.Slice3(0, i, i), v.Slice(i+1, v.Len())))
	default:
		v.Set(reflect.Append(v.Slice3(0, v.Len(), v.Len()), a))
	}
}

// copyOf returns a copy of a value in memory of its own, of which each list has further elements in its capacity.
func copyOf[T any](x T) T {
	v := reflect.ValueOf(&x).Elem()
	copyParts(v)
	return x
}

func copyParts(v reflect.Value) {
	switch v.Kind() {
	case reflect.Slice:
		l := reflect.MakeSlice(v.Type(), v.Len(), v.Len()+2)
		reflect.Copy(l, v)
		for i := range l.Len() {
			copyParts(l.Index(i))
		}
		v.Set(l)
	case reflect.Struct:
		for i := range v.NumField() {
			copyParts(v.Field(i))
		}
	}
}
