package guard

import (
	"slices"
	"strings"

	"farandole/api"
	"farandole/value"
	"farandole/zone"
)

// numberOf returns the number of a variable, or 0 for the variable -1.
func numberOf(known []api.Value, x int) int {
	if x < 0 {
		return 0
	}
	return value.Number(known[x])
}

func isKnown(known []api.Value, x int) bool { return x < 0 || known[x].Kind != 0 }

// with returns what is known, in which the variables of a declaration have other values.
func with(d api.Decl, values, known []api.Value) []api.Value {
	l := slices.Clone(known)
	copy(l[d.First:], values)
	return l
}

// fulfil reports whether values fulfil the guard of a declaration, given what is known.
func fulfil(d api.Decl, values, known []api.Value) bool {
	if !value.FitsAll(d.Fields, values) {
		return false
	}
	all := with(d, values, known)
	for _, b := range d.Guard.Diffs {
		if !isKnown(all, b.X) || !isKnown(all, b.Y) || numberOf(all, b.X)-numberOf(all, b.Y) > b.C {
			return false
		}
	}
	for _, pair := range d.Guard.Equals {
		a, b := pair[0], pair[1]
		if !isKnown(all, a) || !isKnown(all, b) || all[a].S != all[b].S {
			return false
		}
	}
	return true
}

// bounds returns the bounds that the sorts and the guard of a declaration give.
func bounds(d api.Decl) []api.Diff {
	var l []api.Diff
	for i, f := range d.Fields {
		x := d.First + i
		l = append(l, api.Diff{X: x, Y: -1, C: f.Sort.Hi}, api.Diff{X: -1, Y: x, C: -f.Sort.Lo})
	}
	l = append(l, d.Guard.Diffs...)
	for _, pair := range d.Guard.Equals {
		l = append(l, api.Diff{X: pair[0], Y: pair[1]}, api.Diff{X: pair[1], Y: pair[0]})
	}
	return l
}

// leastNumbers returns the least numbers of the fields of a declaration that keep its bounds, where variables that are not known have the number 0.
func leastNumbers(d api.Decl, known []api.Value) ([]int, bool) {
	z, _ := zone.New(len(d.Fields))
	// The zone has the variables of the declaration only: all others are numbers there.
	inZone := func(x int) side {
		if x >= d.First && x < d.First+len(d.Fields) {
			return side{variable: x - d.First}
		}
		return side{variable: -1, plus: numberOf(known, x)}
	}
	for _, b := range bounds(d) {
		x, y := inZone(b.X), inZone(b.Y)
		z, _ = zone.Add(z, api.Diff{X: x.variable, Y: y.variable, C: b.C + y.plus - x.plus})
	}
	return zone.Model(z)
}

// valuesOf returns the values with these numbers of the fields of a declaration. A text that is equal to a known one is this text, and all others are letters.
func valuesOf(d api.Decl, numbers []int, known []api.Value) []api.Value {
	all := with(d, make([]api.Value, len(d.Fields)), known)
	spread(all, d.Guard.Equals)
	values := all[d.First : d.First+len(d.Fields)]
	var out []api.Value
	for i, f := range d.Fields {
		v := api.Value{Kind: f.Sort.Kind}
		switch {
		case v.Kind == api.SortInt:
			v.N = numbers[i]
		case values[i].Kind != 0:
			v.S = strings.Clone(values[i].S)
		default:
			v.S = strings.Repeat("a", numbers[i])
		}
		out = append(out, v)
	}
	return out
}

// spread gives known texts to variables that are not known, along pairs of equal ones, as far as it goes.
func spread(all []api.Value, equals [][2]int) {
	for changed := true; changed; {
		changed = false
		for _, pair := range equals {
			a, b := pair[0], pair[1]
			if !isKnown(all, a) && isKnown(all, b) {
				a, b = b, a
			}
			if isKnown(all, a) && !isKnown(all, b) {
				all[b] = all[a]
				changed = true
			}
		}
	}
}
