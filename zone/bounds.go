package zone

import (
	"farandole/api"
)

// possible reports whether a zone can have n variables.
func possible(n int) bool { return n >= 0 && n <= api.MaxVars }

// alike reports whether two zones are valid, and have the same variables.
func alike(a, b Zone) bool { return Valid(a) && Valid(b) && a.N == b.N }

// zoneOf returns the zone of n variables with the bounds that a function tells.
func zoneOf(n int, bound func(i, j int) int) Zone {
	z := Zone{N: n}
	for i := range n + 1 {
		for j := range n + 1 {
			z.B = append(z.B, bound(i, j))
		}
	}
	return z
}

// empty returns the zone of n variables without assignments.
func empty(n int) Zone {
	z := zoneOf(n, widest)
	z.B[0] = Never
	return z
}

// widest returns the bound of two indices in the full zone.
func widest(i, j int) int {
	switch {
	case i == j:
		return 0
	case i == 0 || j == 0:
		return MaxValue
	}
	return 2 * MaxValue
}

// at returns where the bound of two indices stands.
func (z Zone) at(i, j int) int { return i*(z.N+1) + j }

// bound returns the bound of two indices.
func (z Zone) bound(i, j int) int { return z.B[z.at(i, j)] }

// hasVariable reports whether a zone has a variable.
func (z Zone) hasVariable(x int) bool { return x >= 0 && x < z.N }

// hasBound reports whether a zone has the two numbers of a bound.
func (z Zone) hasBound(d api.Diff) bool {
	return (d.X == -1 || z.hasVariable(d.X)) && (d.Y == -1 || z.hasVariable(d.Y))
}

// permits reports whether all differences of two numbers are at most their bounds.
func (z Zone) permits(difference func(i, j int) int) bool {
	for i := range z.N + 1 {
		for j := range z.N + 1 {
			if difference(i, j) > z.bound(i, j) {
				return false
			}
		}
	}
	return true
}

// shorten replaces all bounds by the lengths of the shortest paths, and reports whether there are any. It stops at the first cycle with a negative sum: more rounds would go along it ever more often, until the sums are too small for an int.
func (z Zone) shorten() bool {
	for between := range z.N + 1 {
		for i := range z.N + 1 {
			for j := range z.N + 1 {
				z.B[z.at(i, j)] = min(z.bound(i, j), z.bound(i, between)+z.bound(between, j))
			}
			if z.bound(i, i) < 0 {
				return false
			}
		}
	}
	return true
}
