package guard

import (
	"strings"

	"farandole/api"
	"farandole/syntax"
	"farandole/value"
)

// The limits of guards.
const (
	maxParts = 20    // Diffs, and Equals, of a guard
	maxC     = 20000 // C of a Diff, in absolute value
)

// has reports whether declarations are valid, and there is one with an index.
func has(decls []api.Decl, label int) bool { return valid(decls) && label >= 0 && label < len(decls) }

// valid reports whether declarations are valid.
func valid(decls []api.Decl) bool {
	if len(decls) > api.MaxDecls {
		return false
	}
	var sorts []api.Sort
	ahead := map[string]bool{}
	for _, d := range decls {
		if !syntax.IsPath(d.Name) || ahead[d.Name] || !areFields(d.Fields) || d.First != len(sorts) {
			return false
		}
		ahead[d.Name] = true
		for _, f := range d.Fields {
			sorts = append(sorts, f.Sort)
		}
	}
	if len(sorts) > api.MaxVars {
		return false
	}
	for _, d := range decls {
		if !isGuard(d.Guard, sorts) {
			return false
		}
	}
	return true
}

// areFields reports whether a declaration may have these fields.
func areFields(l []api.Field) bool {
	if len(l) > api.MaxFields {
		return false
	}
	ahead := map[string]bool{}
	for _, f := range l {
		if !isWord(f.Name) || ahead[f.Name] || !value.ValidSort(f.Sort) {
			return false
		}
		ahead[f.Name] = true
	}
	return true
}

// isWord reports whether a string is a word: a path of one word.
func isWord(s string) bool { return syntax.IsPath(s) && !strings.Contains(s, ".") }

// isGuard reports whether a guard is one over variables with these sorts.
func isGuard(g api.Guard, sorts []api.Sort) bool {
	if len(g.Diffs) > maxParts || len(g.Equals) > maxParts {
		return false
	}
	for _, d := range g.Diffs {
		if d.X < -1 || d.X >= len(sorts) || d.Y < -1 || d.Y >= len(sorts) || isTooFar(d) {
			return false
		}
	}
	for _, pair := range g.Equals {
		for _, x := range pair {
			if x < 0 || x >= len(sorts) || sorts[x].Kind != api.SortText {
				return false
			}
		}
	}
	return true
}

func isTooFar(d api.Diff) bool { return d.C < -maxC || d.C > maxC }

// areKnown reports whether a list of values is one of what is known.
func areKnown(decls []api.Decl, known []api.Value) bool {
	for _, d := range decls {
		for _, f := range d.Fields {
			if len(known) == 0 || known[0] != (api.Value{}) && !value.Fits(f.Sort, known[0]) {
				return false
			}
			known = known[1:]
		}
	}
	return len(known) == 0
}
