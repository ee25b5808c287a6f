package guard

import (
	"strings"

	"farandole/api"
	"farandole/syntax"
)

// field is a field of a message, by their names.
type field struct{ message, name string }

// variable is a variable: its number, and the sort of its field.
type variable struct {
	number int
	sort   api.Sort
}

// maker makes declarations of messages, whose names it looks up.
type maker struct{ variables map[field]variable }

// numbered returns a maker that numbers the fields of messages one after the other.
func numbered(l []syntax.Message) maker {
	m := maker{variables: map[field]variable{}}
	for _, x := range l {
		for _, f := range x.Fields {
			number := len(m.variables)
			m.variables[field{x.Name, f.Name}] = variable{number, f.Sort}
		}
	}
	return m
}

// declaration returns the declaration of a message, whose fields are the variables from first on.
func (m maker) declaration(x syntax.Message, first int) api.Decl {
	d := api.Decl{Name: strings.Clone(x.Name), First: first, Guard: m.guard(x)}
	for _, f := range x.Fields {
		d.Fields = append(d.Fields, api.Field{Name: strings.Clone(f.Name), Sort: f.Sort})
	}
	return d
}

// guard returns the guard that the atoms of a message make.
func (m maker) guard(x syntax.Message) api.Guard {
	var g api.Guard
	diffs := diffsOfMarks()
	for _, a := range x.Where {
		left, right := m.side(x.Name, a.Left), m.side(x.Name, a.Right)
		if left.text {
			g.Equals = append(g.Equals, [2]int{left.variable, right.variable})
		} else {
			g.Diffs = append(g.Diffs, diffs[a.Op](left, right)...)
		}
	}
	return g
}

// side is a side of an atom: a variable, or -1, and the number that is added to it; or a text, to which the other side is equal.
type side struct {
	variable, plus int
	text           bool
}

// side returns the side of an atom that a term of a message is.
func (m maker) side(message string, t syntax.Term) side {
	if t.Kind == syntax.Const {
		return side{variable: -1, plus: t.N}
	}
	if t.Message != "" {
		message = t.Message
	}
	v := m.variables[field{message, t.Field}]
	return side{v.number, t.N, t.Kind == syntax.Ref && v.sort.Kind == api.SortText}
}

// diffsOfMarks returns, for each mark, the function that makes the bounds of two sides.
func diffsOfMarks() map[string]func(x, y side) []api.Diff {
	atMost := func(x, y side) api.Diff { return api.Diff{X: x.variable, Y: y.variable, C: y.plus - x.plus} }
	below := func(x, y side) api.Diff {
		y.plus--
		return atMost(x, y)
	}
	return map[string]func(x, y side) []api.Diff{
		"<":  func(x, y side) []api.Diff { return []api.Diff{below(x, y)} },
		"<=": func(x, y side) []api.Diff { return []api.Diff{atMost(x, y)} },
		"==": func(x, y side) []api.Diff { return []api.Diff{atMost(x, y), atMost(y, x)} },
		">=": func(x, y side) []api.Diff { return []api.Diff{atMost(y, x)} },
		">":  func(x, y side) []api.Diff { return []api.Diff{below(y, x)} },
	}
}
