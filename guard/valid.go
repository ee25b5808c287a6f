package guard

import (
	"strings"

	"farandole/api"
	"farandole/syntax"
)

// The limits of guards.
const (
	maxParts = 20    // Diffs, and Equals, of a guard
	maxC     = 20000 // C of a Diff, in absolute value
)

// has reports whether declarations are valid, and there is one with an index.
func has(decls []api.Decl, label int) bool { return valid(decls) && label >= 0 && label < len(decls) }

// valid reports whether declarations are valid.
func valid(decls []api.Decl) bool {
	if len(decls) > api.MaxDecls {
		return false
	}
	var sorts []api.Sort
	ahead := map[string]bool{}
	for _, d := range decls {
		if !syntax.IsPath(d.Name) || ahead[d.Name] || !areFields(d.Fields) || d.First != len(sorts) {
			return false
		}
		ahead[d.Name] = true
		for _, f := range d.Fields {
			sorts = append(sorts, f.Sort)
		}
	}
	if len(sorts) > api.MaxVars {
		return false
	}
	for _, d := range decls {
		if !isGuard(d.Guard, sorts) {
			return false
		}
	}
	return true
}

// areFields reports whether a declaration may have these fields.
func areFields(l []api.Field) bool {
	if len(l) > api.MaxFields {
		return false
	}
	ahead := map[string]bool{}
	for _, f := range l {
		if !isWord(f.Name) || ahead[f.Name] || !isSort(f.Sort) {
			return false
		}
		ahead[f.Name] = true
	}
	return true
}

// isWord reports whether a string is a word: a path of one word.
func isWord(s string) bool { return syntax.IsPath(s) && !strings.Contains(s, ".") }

func isSort(s api.Sort) bool {
	switch s.Kind {
	case api.SortInt:
		return -api.MaxInt <= s.Lo && s.Lo <= s.Hi && s.Hi <= api.MaxInt
	case api.SortText:
		return 0 <= s.Lo && s.Lo <= s.Hi && s.Hi <= api.MaxText
	}
	return false
}

// isGuard reports whether a guard is one over variables with these sorts.
func isGuard(g api.Guard, sorts []api.Sort) bool {
	if len(g.Diffs) > maxParts || len(g.Equals) > maxParts {
		return false
	}
	for _, d := range g.Diffs {
		if d.X < -1 || d.X >= len(sorts) || d.Y < -1 || d.Y >= len(sorts) || isTooFar(d) {
			return false
		}
	}
	for _, pair := range g.Equals {
		for _, x := range pair {
			if x < 0 || x >= len(sorts) || sorts[x].Kind != api.SortText {
				return false
			}
		}
	}
	return true
}

func isTooFar(d api.Diff) bool { return d.C < -maxC || d.C > maxC }

// areKnown reports whether a list of values is one of what is known.
func areKnown(decls []api.Decl, known []api.Value) bool {
	for _, d := range decls {
		for _, f := range d.Fields {
			if len(known) == 0 || known[0] != (api.Value{}) && !fits(f.Sort, known[0]) {
				return false
			}
			known = known[1:]
		}
	}
	return len(known) == 0
}

// fits reports whether a value fits a sort.
func fits(s api.Sort, v api.Value) bool {
	if v.Kind != s.Kind || number(v) < s.Lo || number(v) > s.Hi {
		return false
	}
	if s.Kind == api.SortInt {
		return v.S == ""
	}
	return v.N == 0 && isPrintable(v.S)
}

func isPrintable(s string) bool {
	for i := range len(s) {
		if s[i] < ' ' || s[i] > '~' {
			return false
		}
	}
	return true
}

// fitAll reports whether values fit the sorts of fields.
func fitAll(l []api.Field, values []api.Value) bool {
	if len(values) != len(l) {
		return false
	}
	for i, f := range l {
		if !fits(f.Sort, values[i]) {
			return false
		}
	}
	return true
}
