package zone_test

import (
	"slices"
	"testing"

	"farandole/api"
	"farandole/zone"
)

const (
	maxValue = 10000
	never    = -20001
	mostVars = 24
)

// valid reports whether a zone is valid, by the definition.
func valid(z zone.Zone) bool {
	if z.N < 0 || z.N > mostVars || len(z.B) != (z.N+1)*(z.N+1) {
		return false
	}
	return !slices.ContainsFunc(z.B, func(c int) bool { return c < never || c > 20000 })
}

// boundOf returns the bound of the number of i minus that of j.
func boundOf(z zone.Zone, i, j int) int { return z.B[i*(z.N+1)+j] }

// numberOf returns the number with an index.
func numberOf(values []int, i int) int {
	if i == 0 {
		return 0
	}
	return values[i-1]
}

// inside reports whether an assignment is in a zone, by the definition.
func inside(z zone.Zone, values []int) bool {
	if !valid(z) || len(values) != z.N || slices.ContainsFunc(values, func(v int) bool { return v < -maxValue || v > maxValue }) {
		return false
	}
	for i := 0; i <= z.N; i++ {
		for j := 0; j <= z.N; j++ {
			if numberOf(values, i)-numberOf(values, j) > boundOf(z, i, j) {
				return false
			}
		}
	}
	return true
}

// widest returns the bound of two indices in the full zone, by the definition.
func widest(i, j int) int {
	if i == j {
		return 0
	}
	if i == 0 || j == 0 {
		return 10000
	}
	return 20000
}

// made returns the zone of n variables with the bounds that a function tells.
func made(n int, bound func(i, j int) int) zone.Zone {
	z := zone.Zone{N: n, B: make([]int, (n+1)*(n+1))}
	for i := range z.B {
		z.B[i] = bound(i/(n+1), i%(n+1))
	}
	return z
}

// fullOf returns the full zone of n variables, and noneOf the one without assignments.
func fullOf(n int) zone.Zone { return made(n, widest) }

func noneOf(n int) zone.Zone {
	return made(n, func(i, j int) int {
		if i == 0 && j == 0 {
			return never
		}
		return widest(i, j)
	})
}

func copyOf(z zone.Zone) zone.Zone { return zone.Zone{N: z.N, B: slices.Clone(z.B)} }

func same(a, b zone.Zone) bool { return a.N == b.N && slices.Equal(a.B, b.B) }

// facts has what is known of the assignments of a zone.
type facts struct {
	valid, some bool
	greatest    [][]int // greatest[i][j] is the greatest difference of the number of i and that of j
	least       []int   // the least assignment
}

// closed returns the closed zone, if there are assignments.
func (f facts) closed() zone.Zone {
	if !f.some {
		return zone.Zone{}
	}
	return made(len(f.least), func(i, j int) int { return f.greatest[i][j] })
}

// factsOfList returns the facts of a zone with n variables whose assignments are those of a list, which is in ascending order.
func factsOfList(n int, list [][]int) facts {
	f := facts{valid: true, some: len(list) > 0}
	if !f.some {
		return f
	}
	f.least = list[0]
	for i := 0; i <= n; i++ {
		f.greatest = append(f.greatest, make([]int, n+1))
		for j := 0; j <= n; j++ {
			f.greatest[i][j] = -99999
			for _, values := range list {
				f.greatest[i][j] = max(f.greatest[i][j], numberOf(values, i)-numberOf(values, j))
			}
		}
	}
	return f
}

// product returns, in ascending order, the lists that have a value of each list, in which values ascend.
func product(choices [][]int) [][]int {
	out := [][]int{nil}
	for _, choice := range choices {
		var longer [][]int
		for _, l := range out {
			for _, v := range choice {
				longer = append(longer, append(slices.Clone(l), v))
			}
		}
		out = longer
	}
	return out
}

// assignments returns which of the products are in a zone.
func assignments(z zone.Zone, choices [][]int) [][]int {
	var out [][]int
	for _, values := range product(choices) {
		if inside(z, values) {
			out = append(out, values)
		}
	}
	return out
}

// lengths returns for each index the length of the shortest path from j to it, where the step from k to i has the bound of i and k as its length; and whether there are any, so no cycle has a negative sum.
func lengths(z zone.Zone, j int) ([]int, bool) {
	out := make([]int, z.N+1)
	for i := range out {
		out[i] = widest(i, j)
	}
	for round := 0; ; round++ {
		changed := false
		for k := range out {
			for i := range out {
				if length := out[k] + min(boundOf(z, i, k), widest(i, k)); length < out[i] {
					out[i], changed = length, true
				}
			}
		}
		if !changed {
			return out, true
		}
		if round > z.N+1 {
			return nil, false
		}
	}
}

// factsOf returns the facts of a zone by the lengths of shortest paths from each index alone.
func factsOf(z zone.Zone) facts {
	f := facts{valid: valid(z)}
	if !f.valid {
		return f
	}
	f.greatest = make([][]int, z.N+1)
	for j := range f.greatest {
		l, ok := lengths(z, j)
		if !ok {
			return facts{valid: true}
		}
		for i := range l {
			f.greatest[i] = append(f.greatest[i], l[i])
		}
	}
	f.some = true
	// The least value of a variable, then with this one the least value of the next one.
	rest := copyOf(z)
	for x := range z.N {
		l, _ := lengths(rest, x+1)
		f.least = append(f.least, -l[0])
		rest.B[(x+1)*(z.N+1)] = min(rest.B[(x+1)*(z.N+1)], -l[0])
	}
	return f
}

// proven reports whether each greatest difference is that of an assignment in the zone, and the least assignment is in it, too.
func (f facts) proven(z zone.Zone) bool {
	if !f.some {
		return true
	}
	for j := 0; j <= z.N; j++ {
		// With the lengths of the paths from j as numbers, moved so that the number 0 is 0, all differences from j are the greatest ones.
		var values []int
		for i := 1; i <= z.N; i++ {
			values = append(values, f.greatest[i][j]-f.greatest[0][j])
		}
		if !inside(z, values) {
			return false
		}
	}
	return inside(z, f.least)
}

// question has arguments for all functions but New.
type question struct {
	z, other zone.Zone
	d        api.Diff
	x        int
	values   []int
}

// answers has the results of all functions but New.
type answers struct {
	valid, holds, closes, implies, sub, models, ranges bool
	added, closed, joined, widened, forgotten          zone.Zone
	errors                                             [4]api.Errno // of Add, Join, Widen and Forget
	model                                              []int
	least, most                                        int
}

func answersOf(q question) answers {
	var s answers
	s.valid = zone.Valid(q.z)
	s.holds = zone.Holds(q.z, q.values)
	s.added, s.errors[0] = zone.Add(q.z, q.d)
	s.closed, s.closes = zone.Close(q.z)
	s.implies = zone.Implies(q.z, q.d)
	s.sub = zone.Sub(q.z, q.other)
	s.joined, s.errors[1] = zone.Join(q.z, q.other)
	s.widened, s.errors[2] = zone.Widen(q.z, q.other)
	s.forgotten, s.errors[3] = zone.Forget(q.z, q.x)
	s.model, s.models = zone.Model(q.z)
	s.least, s.most, s.ranges = zone.Range(q.z, q.x)
	return s
}

func (s answers) equal(t answers) bool {
	for i, z := range []zone.Zone{s.added, s.closed, s.joined, s.widened, s.forgotten} {
		if !same(z, []zone.Zone{t.added, t.closed, t.joined, t.widened, t.forgotten}[i]) {
			return false
		}
	}
	return s.valid == t.valid && s.holds == t.holds && s.closes == t.closes && s.implies == t.implies && s.sub == t.sub && s.models == t.models && s.ranges == t.ranges &&
		s.errors == t.errors && slices.Equal(s.model, t.model) && s.least == t.least && s.most == t.most
}

// expected returns the right answers, where f has the facts of the zone, and g those of the other one.
func expected(q question, f, g facts) answers {
	s := answers{valid: f.valid, holds: inside(q.z, q.values), closes: f.some, closed: f.closed(), models: f.some, model: f.least}
	s.added, s.errors[0] = expectedAdd(q, f)
	s.joined, s.errors[1] = expectedJoin(q, f, g)
	s.widened, s.errors[2] = expectedWiden(q, f, g)
	s.forgotten, s.errors[3] = expectedForget(q, f)
	if variables := q.z.N; f.valid && between(-1, q.d.X, variables-1) && between(-1, q.d.Y, variables-1) {
		s.implies = !f.some || f.greatest[q.d.X+1][q.d.Y+1] <= q.d.C
	}
	if f.some && between(0, q.x, q.z.N-1) {
		s.least, s.most, s.ranges = -f.greatest[0][q.x+1], f.greatest[q.x+1][0], true
	}
	if f.valid && g.valid && q.z.N == q.other.N {
		s.sub = true
		for i := 0; f.some && i <= q.z.N; i++ {
			for j := 0; j <= q.z.N; j++ {
				s.sub = s.sub && f.greatest[i][j] <= boundOf(q.other, i, j)
			}
		}
	}
	return s
}

// between reports whether n is from a to b.
func between(a, n, b int) bool { return a <= n && n <= b }

func expectedAdd(q question, f facts) (zone.Zone, api.Errno) {
	if !f.valid {
		return zone.Zone{}, api.ErrArg
	}
	if !between(-1, q.d.X, q.z.N-1) || !between(-1, q.d.Y, q.z.N-1) {
		return zone.Zone{}, api.ErrRange
	}
	return made(q.z.N, func(i, j int) int {
		c := q.d.C
		if c < never {
			c = never
		}
		if i != q.d.X+1 || j != q.d.Y+1 || c > boundOf(q.z, i, j) {
			return boundOf(q.z, i, j)
		}
		return c
	}), api.OK
}

func expectedJoin(q question, f, g facts) (zone.Zone, api.Errno) {
	switch {
	case !f.valid || !g.valid || q.z.N != q.other.N:
		return zone.Zone{}, api.ErrArg
	case !f.some && !g.some:
		return noneOf(q.z.N), api.OK
	case !f.some:
		return g.closed(), api.OK
	case !g.some:
		return f.closed(), api.OK
	}
	return made(q.z.N, func(i, j int) int { return max(f.greatest[i][j], g.greatest[i][j]) }), api.OK
}

func expectedWiden(q question, f, g facts) (zone.Zone, api.Errno) {
	switch {
	case !f.valid || !g.valid || q.z.N != q.other.N:
		return zone.Zone{}, api.ErrArg
	case !g.some:
		return q.z, api.OK
	case !f.some:
		return g.closed(), api.OK
	}
	return made(q.z.N, func(i, j int) int {
		if g.greatest[i][j] > boundOf(q.z, i, j) {
			return widest(i, j)
		}
		return boundOf(q.z, i, j)
	}), api.OK
}

func expectedForget(q question, f facts) (zone.Zone, api.Errno) {
	switch {
	case !f.valid:
		return zone.Zone{}, api.ErrArg
	case !between(0, q.x, q.z.N-1):
		return zone.Zone{}, api.ErrRange
	case !f.some:
		return noneOf(q.z.N), api.OK
	}
	// The variable has any value from -10000 to 10000, whatever the others are.
	return made(q.z.N, func(i, j int) int {
		switch {
		case i == j:
			return 0
		case i == q.x+1:
			return maxValue + f.greatest[0][j]
		case j == q.x+1:
			return f.greatest[i][0] + maxValue
		}
		return f.greatest[i][j]
	}), api.OK
}

// check compares all answers with the right ones.
func check(t *testing.T, q question, f, g facts) {
	t.Helper()
	if got, want := answersOf(q), expected(q, f, g); !got.equal(want) {
		t.Fatalf("%v, %v, %v, %d, %v: got %v, want %v", q.z, q.other, q.d, q.x, q.values, got, want)
	}
}
