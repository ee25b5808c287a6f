package vclock_test

import (
	"math"
	"testing"

	"farandole/api"
	"farandole/vclock"
)

// P7.1: the examples, and clocks that are not valid.
func TestComparisons(t *testing.T) {
	before, concurrent, equal, none := relation{before: true}, relation{concurrent: true}, relation{equal: true}, relation{}
	for i, c := range []struct {
		a, b vclock.Clock
		want relation
	}{
		{vclock.Clock{1, 2}, vclock.Clock{1, 5}, before}, {vclock.Clock{0, 5}, vclock.Clock{1, 5}, before},
		{vclock.Clock{0, 0}, vclock.Clock{1, 1}, before}, {vclock.Clock{0}, vclock.Clock{top}, before}, {vclock.Clock{top - 1}, vclock.Clock{top}, before},
		{vclock.Clock{1, 0}, vclock.Clock{0, 1}, concurrent}, {vclock.Clock{0, 2}, vclock.Clock{1, 0}, concurrent},
		{vclock.Clock{0, 9, 9, 9, 9, 9}, vclock.Clock{1, 0, 0, 0, 0, 0}, concurrent}, {vclock.Clock{9, 9, 9, 9, 9, 0}, vclock.Clock{0, 0, 0, 0, 0, 1}, concurrent},
		{vclock.Clock{1, 2}, vclock.Clock{1, 2}, equal}, {vclock.Clock{top}, vclock.Clock{top}, equal},
		{vclock.Clock{0}, vclock.Clock{0, 1}, none}, {vclock.Clock{0}, vclock.Clock{0, 0}, none}, {vclock.Clock{1, 0}, vclock.Clock{0, 1, 0}, none},
		{nil, vclock.Clock{0}, none}, {nil, vclock.Clock{1}, none}, {filled(6, 0), filled(7, 1), none}, {vclock.Clock{2, 0}, vclock.Clock{1}, none},
		{nil, nil, equal}, {nil, vclock.Clock{}, equal}, {vclock.Clock{}, vclock.Clock{}, equal},
		{vclock.Clock{-1}, vclock.Clock{0}, before}, {vclock.Clock{-2}, vclock.Clock{-1}, before}, {vclock.Clock{math.MinInt}, vclock.Clock{math.MaxInt}, before},
		{vclock.Clock{top}, vclock.Clock{top + 1}, before}, {vclock.Clock{-1, 0}, vclock.Clock{0, -1}, concurrent},
		{vclock.Clock{math.MinInt, 1}, vclock.Clock{math.MaxInt, 0}, concurrent}, {vclock.Clock{top + 1}, vclock.Clock{top + 1}, equal},
		{filled(7, 3), filled(7, 3), equal}, {filled(7, 3), filled(7, 4), before}, {append(filled(6, 1), 2), append(filled(6, 2), 1), concurrent},
		{filled(1000, 0), filled(1000, 1), before},
	} {
		if got := compared(c.a, c.b); got != c.want {
			t.Errorf("%d: %v, %v: got %v, want %v", i, c.a, c.b, got, c.want)
		}
		want := relation{c.want.after, c.want.before, c.want.concurrent, c.want.equal}
		if got := compared(c.b, c.a); got != want {
			t.Errorf("%d: %v, %v: got %v, want %v", i, c.b, c.a, got, want)
		}
	}
}

// P7.1: all pairs of clocks, valid or not, of the same length or not.
func TestCompareAll(t *testing.T) {
	eachPair(clocks(), func(a, b vclock.Clock) {
		if got, want := compared(a, b), related(a, b); got != want {
			t.Fatalf("%v, %v: got %v, want %v", a, b, got, want)
		}
	})
	for n := 1; n <= 4; n++ {
		eachPair(small(n, 0, 2), func(a, b vclock.Clock) {
			if got, want := compared(a, b), related(a, b); got != want {
				t.Fatalf("%v, %v: got %v, want %v", a, b, got, want)
			}
		})
	}
}

// P7.1: one entry decides, wherever it is and by however little.
func TestCompareByOne(t *testing.T) {
	for n := 1; n <= 8; n++ {
		for role := range n {
			for _, entry := range []int{0, 1, 1 << 31, 1 << 32, top - 1, -1, 1 << 53, math.MaxInt - 1, math.MinInt} {
				a, b := filled(n, entry), filled(n, entry)
				b[role]++
				if got := compared(a, b); got != (relation{before: true}) {
					t.Errorf("%v, %v: got %v", a, b, got)
				}
			}
		}
	}
}

// P7.2: no clock is before itself, and it is not concurrent with itself.
func TestIrreflexive(t *testing.T) {
	for _, c := range clocks() {
		if got := compared(c, c); got != (relation{equal: true}) {
			t.Errorf("%v: %v", c, got)
		}
	}
}

// few returns few clocks of each length, valid or not, of which all triples are tried.
func few() []vclock.Clock {
	l := []vclock.Clock{nil, filled(7, 0), filled(7, 1), {-1, 0}, {0, -1}, {top + 1, 0}}
	for n := 1; n <= roles; n++ {
		l = append(l, filled(n, 0), filled(n, 1), filled(n, top))
		l = append(l, randomClocks(n, 8)...)
	}
	return l
}

// P7.2: if a is before b, and b before c, then a is before c.
func TestTransitive(t *testing.T) {
	test := func(a, b, c vclock.Clock) {
		if vclock.Before(a, b) && vclock.Before(b, c) && !vclock.Before(a, c) {
			t.Fatalf("%v, %v, %v", a, b, c)
		}
		if vclock.Equal(a, b) && compared(a, c) != compared(b, c) {
			t.Fatalf("%v and %v are equal, but not for %v", a, b, c)
		}
	}
	eachTriple(few(), test)
	eachTriple(small(2, 0, 3), test)
	eachTriple(small(3, 0, 2), test)
}

// P7.2: exactly one holds: equal, before, behind or concurrent; of clocks of different lengths, none.
func TestExactlyOne(t *testing.T) {
	eachPair(clocks(), func(a, b vclock.Clock) {
		n := 0
		r := compared(a, b)
		for _, holds := range []bool{r.before, r.after, r.concurrent, r.equal} {
			if holds {
				n++
			}
		}
		if (n == 1) != (len(a) == len(b)) || n > 1 {
			t.Fatalf("%v, %v: %v", a, b, r)
		}
		if vclock.Concurrent(b, a) != r.concurrent || vclock.Equal(b, a) != r.equal {
			t.Fatalf("%v, %v: the order of the arguments matters", a, b)
		}
	})
}

// atMost reports whether a knows at most what b knows, by the functions of the package.
func atMost(a, b vclock.Clock) bool { return vclock.Before(a, b) || vclock.Equal(a, b) }

// join returns the join of two clocks that have one.
func join(t *testing.T, a, b vclock.Clock) vclock.Clock {
	t.Helper()
	c, e := vclock.Join(a, b)
	if e != api.OK || !vclock.Valid(c) {
		t.Fatalf("%v, %v: got %v %v", a, b, c, e)
	}
	return c
}

// P7.3: the join knows what both know, and no clock that knows it is less.
func TestJoinIsLeast(t *testing.T) {
	test := func(a, b, c vclock.Clock) {
		if len(a) != len(b) || !valid(a) || !valid(b) {
			return
		}
		both := join(t, a, b)
		if !atMost(a, both) || !atMost(b, both) {
			t.Fatalf("%v, %v: %v does not know all", a, b, both)
		}
		if atMost(a, c) && atMost(b, c) && !atMost(both, c) {
			t.Fatalf("%v, %v: %v is not the least one, as there is %v", a, b, both, c)
		}
		if vclock.Equal(both, b) != atMost(a, b) {
			t.Fatalf("%v, %v: %v", a, b, both)
		}
	}
	eachTriple(few(), test)
	eachTriple(small(2, 0, 3), test)
	eachTriple(small(3, 0, 2), test)
}

// P7.3: the join does not depend on the order of its arguments, and joining more than once changes nothing.
func TestJoinLaws(t *testing.T) {
	eachPair(validClocks(), func(a, b vclock.Clock) {
		if len(a) != len(b) {
			return
		}
		both := join(t, a, b)
		for _, again := range []vclock.Clock{join(t, b, a), join(t, a, both), join(t, both, a), join(t, b, both), join(t, both, b), join(t, both, both)} {
			if !vclock.Equal(again, both) {
				t.Fatalf("%v, %v: %v, then %v", a, b, both, again)
			}
		}
		if !vclock.Equal(join(t, a, a), a) {
			t.Fatalf("%v with itself", a)
		}
	})
	eachTriple(few(), func(a, b, c vclock.Clock) {
		if !valid(a) || !valid(b) || !valid(c) || len(a) != len(b) || len(b) != len(c) {
			return
		}
		if !vclock.Equal(join(t, join(t, a, b), c), join(t, a, join(t, b, c))) {
			t.Fatalf("%v, %v, %v: the order of joining matters", a, b, c)
		}
	})
}
