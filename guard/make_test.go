package guard_test

import (
	"math/rand"
	"slices"
	"strings"

	"farandole/api"
	"farandole/guard"
	"farandole/syntax"
)

// maker makes random arguments.
type maker struct{ *rand.Rand }

func newMaker(seed int64) maker { return maker{rand.New(rand.NewSource(seed))} }

// pick returns one of a list.
func pick[T any](m maker, l ...T) T { return l[m.Intn(len(l))] }

// some returns least to most of the texts of a list, in a random order.
func (m maker) some(least, most int, l ...string) []string {
	m.Shuffle(len(l), func(i, j int) { l[i], l[j] = l[j], l[i] })
	return l[:min(len(l), least+m.Intn(most-least+1))]
}

// sort returns a sort with few values, or with any number of them.
func (m maker) sort(few bool) api.Sort {
	if m.Intn(2) == 0 {
		s := api.Sort{Kind: api.SortText, Lo: pick(m, 0, 0, 1)}
		s.Hi = s.Lo + m.Intn(3)
		if !few {
			s = api.Sort{Kind: api.SortText, Lo: pick(m, 0, 0, 1, 39, 40, m.Intn(41))}
			s.Hi = s.Lo + m.Intn(41-s.Lo)
		}
		return s
	}
	s := api.Sort{Kind: api.SortInt, Lo: m.Intn(7) - 3}
	s.Hi = s.Lo + m.Intn(4)
	if !few {
		s = api.Sort{Kind: api.SortInt, Lo: pick(m, -1000, -999, 0, m.Intn(2001)-1000)}
		s.Hi = pick(m, s.Lo, 1000, s.Lo+m.Intn(1001-s.Lo))
	}
	return s
}

// decls returns valid declarations.
func (m maker) decls(few bool) []api.Decl {
	var l []api.Decl
	first := 0
	for _, name := range m.some(1, 6, "m", "n", "p.q", "x", "aMessage", "m.m.m") {
		d := api.Decl{Name: name, First: first}
		for _, name := range m.some(0, 4, "x", "y", "z", "m", "aField") {
			d.Fields = append(d.Fields, api.Field{Name: name, Sort: m.sort(few)})
		}
		first += len(d.Fields)
		l = append(l, d)
	}
	for i := range l {
		l[i].Guard = m.guard(l, i, few)
	}
	return l
}

// guard returns a guard for a declaration.
func (m maker) guard(decls []api.Decl, label int, few bool) api.Guard {
	var texts, ownTexts, variables, own []int
	for x, f := range fieldsOf(decls) {
		_, isOwn := places{d: decls[label]}.own(x)
		variables = append(variables, x)
		if isOwn {
			own = append(own, x)
		}
		if f.Sort.Kind == api.SortText {
			texts = append(texts, x)
		}
		if f.Sort.Kind == api.SortText && isOwn {
			ownTexts = append(ownTexts, x)
		}
	}
	var g api.Guard
	for range pick(m, 0, 1, 2, 4, 6, m.Intn(21)) {
		d := api.Diff{X: m.near(own, variables, -1), Y: m.near(own, variables, -1)}
		d.C = m.Intn(9) - 3
		if !few {
			d.C = pick(m, d.C, m.Intn(1500)-300, m.Intn(40001)-20000, 20000)
		}
		g.Diffs = append(g.Diffs, d)
	}
	if len(texts) > 0 {
		for range pick(m, 0, 0, 1, 2, 3, m.Intn(21)) {
			g.Equals = append(g.Equals, [2]int{m.near(ownTexts, texts, texts[0]), m.near(ownTexts, texts, texts[0])})
		}
	}
	return g
}

// near returns a number of one of two lists, or another one.
func (m maker) near(often, seldom []int, other int) int {
	switch {
	case len(often) > 0 && m.Intn(4) > 0:
		return pick(m, often...)
	case len(seldom) > 0 && m.Intn(3) > 0:
		return pick(m, seldom...)
	}
	return other
}

// value returns a value that fits a sort. Texts of the same length are often equal.
func (m maker) value(s api.Sort) api.Value {
	n := s.Lo + m.Intn(s.Hi-s.Lo+1)
	if s.Kind == api.SortInt {
		return num(n)
	}
	text := strings.Repeat("b", n)
	if n > 0 && m.Intn(4) == 0 {
		text = text[1:] + pick(m, "a", "c", " ", "~", "\"")
	}
	return str(text)
}

// values returns values that fit the sorts of fields.
func (m maker) values(l []api.Field) []api.Value {
	var out []api.Value
	for _, f := range l {
		out = append(out, m.value(f.Sort))
	}
	return out
}

// known returns what may be known: all, or all but a few values.
func (m maker) known(decls []api.Decl) []api.Value {
	out := m.values(fieldsOf(decls))
	if len(out) > 0 {
		for range pick(m, 0, 0, 0, 1, 8) {
			out[m.Intn(len(out))] = api.Value{}
		}
	}
	return out
}

// question returns arguments of which many values fulfil the guard, or nearly so.
func (m maker) question(few bool) question {
	decls := m.decls(few)
	q := question{decls: decls, label: m.Intn(len(decls)), known: m.known(decls)}
	fields := decls[q.label].Fields
	q.values = m.values(fields)
	if l, ok := guard.Fill(decls, q.label, q.known); ok && m.Intn(4) > 0 {
		q.values = l
		if len(l) > 0 && m.Intn(2) == 0 {
			i := m.Intn(len(l))
			l[i] = m.value(fields[i].Sort)
		}
	}
	return q
}

// changed returns values of which one does not fit, or is left out, or stands there too much.
func (m maker) changed(values []api.Value) []api.Value {
	l := append(slices.Clone(values), num(m.Intn(5)-2))
	if m.Intn(6) == 0 || len(l) == 1 {
		return l
	}
	l = l[:len(values)]
	v := &l[m.Intn(len(l))]
	switch m.Intn(8) {
	case 0:
		v.Kind = pick(m, -1, 0, 1, 2, 3)
	case 1:
		v.N += pick(m, 1, -1, 3000, -3000)
	case 2:
		v.S += pick(m, "x", "\x1f", "\x7f", "\x80", "\n", "\x00")
	case 3:
		v.S = pick(m, "\x1f", "\x7f", "\xff", "é", strings.Repeat("x", 41))
	case 4:
		*v = api.Value{}
	case 5:
		*v = api.Value{S: "x"}
	case 6:
		*v = api.Value{N: 1}
	case 7:
		return l[:len(l)-1]
	}
	return l
}

// messages returns messages without problems of names, whose numbers are often small.
func (m maker) messages() []syntax.Message {
	var l []syntax.Message
	for _, name := range m.some(0, 7, "m", "n", "p.q", "x", "A", "P", "m.x") {
		x := syntax.Message{Name: name}
		for _, name := range m.some(pick(m, 0, 0, 0, 4), 4, "x", "y", "z", "m", "aField") {
			x.Fields = append(x.Fields, api.Field{Name: name, Sort: m.sort(m.Intn(2) == 0)})
		}
		l = append(l, x)
	}
	for i := range l {
		for range pick(m, 0, 1, 2, 3, 6) {
			l[i].Where = append(l[i].Where, m.atom(l, i))
		}
	}
	return l
}

// atom returns an atom for a message: a comparison of numbers, or of two texts.
func (m maker) atom(l []syntax.Message, at int) syntax.Atom {
	numbers := []syntax.Term{{Kind: syntax.Const, N: m.Intn(9) - 4}, {Kind: syntax.Const, N: pick(m, 0, 500, 20000)}}
	var texts []syntax.Term
	for i, x := range l {
		if i == at && m.Intn(2) == 0 {
			x.Name = ""
		}
		for _, f := range x.Fields {
			t := syntax.Term{Kind: syntax.Ref, Message: x.Name, Field: f.Name}
			if f.Sort.Kind == api.SortText {
				texts = append(texts, t)
				t.Kind = syntax.Len
			}
			t.N = pick(m, 0, 0, 1, -2, 5, m.Intn(3000)-1500)
			numbers = append(numbers, t)
		}
	}
	if len(texts) > 0 && m.Intn(3) == 0 {
		return syntax.Atom{Left: pick(m, texts...), Op: "==", Right: pick(m, texts...)}
	}
	return syntax.Atom{Left: pick(m, numbers...), Op: pick(m, "<", "<=", "==", ">=", ">"), Right: pick(m, numbers...)}
}
