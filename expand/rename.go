package expand

import (
	"slices"
	"strings"

	"farandole/api"
	"farandole/syntax"
)

// renaming has the names that roles, and the paths of messages and loops, get in an expansion. They are new memory.
type renaming struct{ role, path func(s string) string }

// ownNames returns the renaming for what stands in a protocol itself.
func ownNames() renaming { return renaming{role: strings.Clone, path: strings.Clone} }

// of returns the renaming for what a call takes from the expansion of a protocol, if the call itself has the renaming r.
func (r renaming) of(call syntax.Item, p syntax.Protocol) renaming {
	return renaming{
		role: func(s string) string { return r.role(call.To[slices.Index(p.Roles, s)]) },
		path: func(s string) string { return r.path(call.As + "." + s) },
	}
}

// renamedItem returns an item with other names and blocks.
func renamedItem(x syntax.Item, blocks [][]syntax.Item, r renaming) syntax.Item {
	out := syntax.Item{Kind: x.Kind, Ticks: x.Ticks, Blocks: blocks, To: each(x.To, r.role)}
	if x.From != "" {
		out.From = r.role(x.From)
	}
	if x.Name != "" {
		out.Name = r.path(x.Name)
	}
	return out
}

func renamedMessages(l []syntax.Message, r renaming) []syntax.Message {
	return each(l, func(m syntax.Message) syntax.Message {
		return syntax.Message{
			Name: r.path(m.Name),
			Fields: each(m.Fields, func(f api.Field) api.Field {
				return api.Field{Name: strings.Clone(f.Name), Sort: f.Sort}
			}),
			Where: each(m.Where, func(a syntax.Atom) syntax.Atom {
				return syntax.Atom{Left: renamedTerm(a.Left, r), Op: strings.Clone(a.Op), Right: renamedTerm(a.Right, r)}
			}),
		}
	})
}

// renamedTerm returns a term with another path, if it names a message.
func renamedTerm(t syntax.Term, r renaming) syntax.Term {
	out := syntax.Term{Kind: t.Kind, Field: strings.Clone(t.Field), N: t.N}
	if t.Message != "" {
		out.Message = r.path(t.Message)
	}
	return out
}

// each returns what becomes of the elements of a list.
func each[T, U any](l []T, become func(x T) U) []U {
	var out []U
	for _, x := range l {
		out = append(out, become(x))
	}
	return out
}
