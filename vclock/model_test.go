package vclock_test

import (
	"math"
	"math/rand"
	"slices"
	"testing"

	"farandole/api"
	"farandole/vclock"
)

const (
	roles = 6
	top   = 1099511627776
)

// small returns all clocks of n entries from low to high.
func small(n, low, high int) []vclock.Clock {
	l := []vclock.Clock{{}}
	for range n {
		var longer []vclock.Clock
		for _, c := range l {
			for entry := low; entry <= high; entry++ {
				longer = append(longer, append(slices.Clone(c), entry))
			}
		}
		l = longer
	}
	return l
}

// filled returns a clock of n entries that are the same.
func filled(n, entry int) vclock.Clock {
	c := make(vclock.Clock, n)
	for role := range c {
		c[role] = entry
	}
	return c
}

// entries returns possible and impossible entries.
func entries() []int {
	return []int{
		0, 1, 2, 3, 255, 256, math.MaxInt32, math.MaxInt32 + 1, 1 << 32, 1<<32 + 1, top - 2, top - 1, top,
		-1, -2, math.MinInt32, math.MinInt32 - 1, -top, math.MinInt, math.MinInt + 1,
		top + 1, top + 2, 1 << 41, 1 << 62, math.MaxInt - 1, math.MaxInt,
	}
}

// withEntry returns clocks of n entries, of which one is the given one.
func withEntry(n, entry int) []vclock.Clock {
	var l []vclock.Clock
	for role := range n {
		for _, other := range []int{0, 1, top} {
			c := filled(n, other)
			c[role] = entry
			l = append(l, c)
		}
	}
	return l
}

// randomClocks returns many clocks of n entries, most of them valid, so that some of them are comparable.
func randomClocks(n, many int) []vclock.Clock {
	random := rand.New(rand.NewSource(int64(7 + n)))
	var l []vclock.Clock
	for range many {
		c := make(vclock.Clock, n)
		for role := range c {
			switch random.Intn(4) {
			case 0, 1:
				c[role] = random.Intn(4)
			case 2:
				c[role] = top - random.Intn(3)
			case 3:
				c[role] = random.Intn(top)
			}
		}
		if random.Intn(8) == 0 && n > 0 {
			c[random.Intn(n)] = entries()[random.Intn(len(entries()))]
		}
		l = append(l, c)
	}
	return l
}

// clocks returns clocks of all lengths, valid or not.
func clocks() []vclock.Clock {
	l := []vclock.Clock{nil, {}}
	for n := range 9 {
		for _, entry := range []int{0, 1, 2, top - 1, top, -1, top + 1, math.MinInt, math.MaxInt} {
			l = append(l, filled(n, entry))
		}
		if n <= 3 {
			l = append(l, small(n, -1, 1)...)
		}
		l = append(l, randomClocks(n, 30)...)
	}
	return append(l, filled(1000, 0), filled(1000, 1))
}

// validClocks returns those of the clocks that are valid.
func validClocks() []vclock.Clock {
	return slices.DeleteFunc(clocks(), func(c vclock.Clock) bool { return !valid(c) })
}

// eachPair calls f with each pair of clocks of a list.
func eachPair(l []vclock.Clock, f func(a, b vclock.Clock)) {
	for _, a := range l {
		for _, b := range l {
			f(a, b)
		}
	}
}

// eachTriple calls f with each triple of clocks of a list.
func eachTriple(l []vclock.Clock, f func(a, b, c vclock.Clock)) {
	eachPair(l, func(a, b vclock.Clock) {
		for _, c := range l {
			f(a, b, c)
		}
	})
}

// valid reports whether a clock is valid, by the definition.
func valid(c vclock.Clock) bool {
	outside := slices.ContainsFunc(c, func(n int) bool { return n < 0 || n > top })
	return len(c) > 0 && len(c) <= roles && !outside
}

// relation is how two clocks lie to each other.
type relation struct{ before, after, concurrent, equal bool }

// related returns the relation of two clocks by the definition.
func related(a, b vclock.Clock) relation {
	if len(a) != len(b) {
		return relation{}
	}
	less, greater := 0, 0
	for role, n := range a {
		switch {
		case n < b[role]:
			less++
		case n > b[role]:
			greater++
		}
	}
	return relation{less > 0 && greater == 0, less == 0 && greater > 0, less > 0 && greater > 0, less == 0 && greater == 0}
}

// compared returns the relation of two clocks as the package has it.
func compared(a, b vclock.Clock) relation {
	return relation{vclock.Before(a, b), vclock.Before(b, a), vclock.Concurrent(a, b), vclock.Equal(a, b)}
}

// ticked returns the result of Tick by the definition.
func ticked(c vclock.Clock, role int) (vclock.Clock, api.Errno) {
	if !valid(c) {
		return nil, api.ErrArg
	}
	if role < 0 || role > len(c)-1 {
		return nil, api.ErrRole
	}
	if c[role] == top {
		return nil, api.ErrLimit
	}
	next := vclock.Clock{}
	for r, n := range c {
		if r == role {
			n++
		}
		next = append(next, n)
	}
	return next, api.OK
}

// joined returns the result of Join by the definition.
func joined(a, b vclock.Clock) (vclock.Clock, api.Errno) {
	if !valid(a) || !valid(b) || len(a) != len(b) {
		return nil, api.ErrArg
	}
	both := vclock.Clock{}
	for role, n := range a {
		if n < b[role] {
			n = b[role]
		}
		both = append(both, n)
	}
	return both, api.OK
}

// received returns the result of Receive by the definition.
func received(c, message vclock.Clock, role int) (vclock.Clock, api.Errno) {
	both, e := joined(c, message)
	if e != api.OK {
		return nil, e
	}
	return ticked(both, role)
}

// answer is what a function returns.
type answer struct {
	c vclock.Clock
	e api.Errno
}

func answered(c vclock.Clock, e api.Errno) answer { return answer{c, e} }

// same tests that a function returned what it should, and a valid clock if there is no error.
func same(t *testing.T, what string, got, want answer) {
	t.Helper()
	if got.e != want.e || !slices.Equal(got.c, want.c) {
		t.Fatalf("%s: got %v %v, want %v %v", what, got.c, got.e, want.c, want.e)
	}
	if got.e == api.OK && !valid(got.c) {
		t.Fatalf("%s: %v is not valid", what, got.c)
	}
}
