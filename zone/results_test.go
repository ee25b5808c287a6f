package zone_test

import (
	"math"
	"math/rand"
	"slices"
	"testing"

	"farandole/api"
	"farandole/zone"
)

// with returns a zone with further bounds.
func with(t *testing.T, z zone.Zone, l ...api.Diff) zone.Zone {
	t.Helper()
	for _, d := range l {
		next, e := zone.Add(z, d)
		if e != api.OK {
			t.Fatalf("Add of %v to %v: %s", d, z, e.Name())
		}
		z = next
	}
	return z
}

// fresh returns the full zone of n variables, with further bounds.
func fresh(t *testing.T, n int, l ...api.Diff) zone.Zone {
	t.Helper()
	z, e := zone.New(n)
	if e != api.OK {
		t.Fatalf("New(%d): %s", n, e.Name())
	}
	return with(t, z, l...)
}

// rangeIs tests what Range returns.
func rangeIs(t *testing.T, z zone.Zone, x, least, most int, ok bool) {
	t.Helper()
	if a, b, some := zone.Range(z, x); a != least || b != most || some != ok {
		t.Errorf("Range of %d in %v: %d %d %v, want %d %d %v", x, z, a, b, some, least, most, ok)
	}
}

// modelIs tests what Model returns.
func modelIs(t *testing.T, z zone.Zone, ok bool, want ...int) {
	t.Helper()
	if m, some := zone.Model(z); !slices.Equal(m, want) || some != ok {
		t.Errorf("Model of %v: %v %v, want %v %v", z, m, some, want, ok)
	}
}

// P13.1: with x at least 3 and y - x at most -1, the range of y is up to 9999, and the model is x = 3 and y = -10000.
func TestExample(t *testing.T) {
	z := fresh(t, 2, api.Diff{X: -1, Y: 0, C: -3}, api.Diff{X: 1, Y: 0, C: -1})
	rangeIs(t, z, 0, 3, 10000, true)
	rangeIs(t, z, 1, -10000, 9999, true)
	modelIs(t, z, true, 3, -10000)
	if want := (zone.Zone{N: 2, B: []int{0, -3, 10000, 10000, 0, 20000, 10000, -1, 0}}); !same(z, want) {
		t.Errorf("Add: %v, want %v", z, want)
	}
	if c, ok := zone.Close(z); !ok || !same(c, zone.Zone{N: 2, B: []int{0, -3, 10000, 10000, 0, 20000, 9999, -1, 0}}) {
		t.Errorf("Close: %v %v", c, ok)
	}
	for _, values := range [][]int{{3, 2}, {3, -10000}, {10000, 9999}, {10000, -10000}} {
		if !zone.Holds(z, values) {
			t.Errorf("%v is in the zone", values)
		}
	}
	for _, values := range [][]int{nil, {}, {3}, {3, 2, 1}, {2, 1}, {3, 3}, {10000, 10000}, {10001, 0}, {5, -10001}} {
		if zone.Holds(z, values) {
			t.Errorf("%v is not in the zone", values)
		}
	}
}

// P13.1: the numbers of the limits.
func TestLimits(t *testing.T) {
	if zone.MaxValue != maxValue || zone.Never != never {
		t.Errorf("%d %d", zone.MaxValue, zone.Never)
	}
}

// P13.1: New returns the full zone of 0 to 24 variables, and ErrRange for other numbers.
func TestNew(t *testing.T) {
	for n := range 25 {
		if z, e := zone.New(n); e != api.OK || !same(z, fullOf(n)) || !valid(z) {
			t.Errorf("%d: %v %s", n, z, e.Name())
		}
	}
	for _, n := range []int{25, 26, 40, 1000, -1, -2, -24, 1 << 32, -1 << 32, 1<<32 - 1, math.MaxInt, math.MinInt} {
		if z, e := zone.New(n); e != api.ErrRange || !same(z, zone.Zone{}) {
			t.Errorf("%d: %v %s", n, z, e.Name())
		}
	}
}

// P13.1: zones without variables have the empty list as their only assignment, or none if 0 minus 0 is too great.
func TestNoVariables(t *testing.T) {
	none := zone.Zone{B: []int{never}}
	for c := never; c <= 20000; c++ {
		z := zone.Zone{B: []int{c}}
		f := factsOfList(0, assignments(z, nil))
		if f.some != (c >= 0) {
			t.Fatalf("%v: %v", z, f)
		}
		for _, other := range []zone.Zone{{B: []int{0}}, {B: []int{20000}}, {B: []int{-1}}, none} {
			g := factsOfList(0, assignments(other, nil))
			check(t, question{z: z, other: other, d: api.Diff{X: -1, Y: -1, C: c % 7}}, f, g)
			check(t, question{z: other, other: z, d: api.Diff{X: -1, Y: 0}, x: -1, values: []int{0}}, g, f)
		}
	}
	z := fresh(t, 0)
	modelIs(t, z, true)
	modelIs(t, none, false)
	if !zone.Holds(z, nil) || !zone.Holds(z, []int{}) || zone.Holds(z, []int{0}) || zone.Holds(none, nil) {
		t.Error("Holds")
	}
	if j, e := zone.Join(none, none); e != api.OK || !same(j, none) {
		t.Errorf("Join: %v %s", j, e.Name())
	}
	if f, e := zone.Forget(z, 0); e != api.ErrRange || !same(f, zone.Zone{}) {
		t.Errorf("Forget: %v %s", f, e.Name())
	}
}

// P13.1: zones that are not valid have no results; ErrArg is ahead of ErrRange.
func TestBroken(t *testing.T) {
	want := answers{errors: [4]api.Errno{api.ErrArg, api.ErrArg, api.ErrArg, api.ErrArg}}
	for _, z := range broken() {
		if valid(z) {
			t.Fatalf("%v is valid", z)
		}
		for _, d := range []api.Diff{{}, {X: -1, Y: -1}, {X: -1, Y: 0, C: math.MaxInt}, {X: 99, Y: -99, C: math.MinInt}, {X: math.MaxInt, Y: math.MinInt}} {
			for _, x := range []int{0, -1, 23, 99, math.MinInt, math.MaxInt} {
				for _, values := range [][]int{nil, {0}, {0, 0}, make([]int, 24), make([]int, 25)} {
					if got := answersOf(question{z, z, d, x, values}); !got.equal(want) {
						t.Fatalf("%v, %v, %d, %v: %v", z, d, x, values, got)
					}
				}
			}
		}
	}
}

// P13.1: Join, Widen and Sub need two valid zones with the same variables, also where one of them has no assignments.
func TestPairsThatDoNotFit(t *testing.T) {
	fit := []zone.Zone{fullOf(0), noneOf(0), fullOf(1), noneOf(1), fullOf(2), noneOf(2), fullOf(24), noneOf(24)}
	test := func(a, b zone.Zone) {
		j, e := zone.Join(a, b)
		w, f := zone.Widen(a, b)
		if e != api.ErrArg || f != api.ErrArg || !same(j, zone.Zone{}) || !same(w, zone.Zone{}) || zone.Sub(a, b) {
			t.Errorf("%v and %v: %v %s, %v %s, %v", a, b, j, e.Name(), w, f.Name(), zone.Sub(a, b))
		}
	}
	for _, a := range fit {
		for _, b := range fit {
			if a.N != b.N {
				test(a, b)
			}
		}
		for _, b := range broken() {
			test(a, b)
			test(b, a)
		}
	}
}

// extremes has numbers of variables, of which few exist.
func extremes(n int) []int {
	return []int{-1, 0, 1, n - 2, n - 1, n, n + 1, 23, 24, 25, -2, -3, -24, 1000, 1 << 32, 1<<32 - 1, -1 << 32, math.MaxInt, math.MaxInt - 1, math.MinInt, math.MinInt + 1}
}

// P13.1: the variables of a bound are from -1 to N - 1, and others from 0 to N - 1; ErrRange otherwise, or false.
func TestVariables(t *testing.T) {
	random := rand.New(rand.NewSource(131))
	for _, z := range []zone.Zone{fullOf(0), noneOf(0), fullOf(1), noneOf(1), fullOf(2), noneOf(3), zoneFor(random, 4), fullOf(23), fullOf(24), noneOf(24), ring(random, 24, 0), ring(random, 24, -1)} {
		f := factsOf(z)
		for _, x := range extremes(z.N) {
			for _, y := range extremes(z.N) {
				check(t, question{z: z, other: z, d: api.Diff{X: x, Y: y, C: random.Intn(30001) - 15000}, x: x}, f, f)
			}
		}
	}
}

// P13.1: Add takes any C: one that is not smaller changes nothing, and one that is too small is Never.
func TestAddAnyNumber(t *testing.T) {
	for _, z := range []zone.Zone{fullOf(0), fullOf(1), fullOf(2), noneOf(2), made(2, func(i, j int) int { return 20000 }), made(2, func(i, j int) int { return never }), made(2, func(i, j int) int { return never + 1 + i*j })} {
		f := factsOf(z)
		for x := -1; x < z.N; x++ {
			for y := -1; y < z.N; y++ {
				old := boundOf(z, x+1, y+1)
				for _, c := range []int{old - 1, old, old + 1, 0, 1, -1, never - 1, never, never + 1, never + 2, 2 * never, 20000, 20001, 9999, 10000, 10001, math.MaxInt, math.MinInt, math.MinInt + 1} {
					d := api.Diff{X: x, Y: y, C: c}
					check(t, question{z: z, other: z, d: d}, f, f)
					got := with(t, z, d)
					if !valid(got) || (c >= old && !same(got, z)) || (c < never && boundOf(got, x+1, y+1) != never) {
						t.Errorf("%v to %v: %v", d, z, got)
					}
				}
			}
		}
	}
}

// P13.1: Implies takes any C, and two equal variables, also those of zones without assignments.
func TestImpliesAnyNumber(t *testing.T) {
	z, none := fresh(t, 2, api.Diff{X: 0, Y: 1, C: 7}), fresh(t, 2, api.Diff{X: 1, Y: 1, C: -1})
	for d, want := range map[api.Diff]bool{
		{X: 0, Y: 1, C: 7}: true, {X: 0, Y: 1, C: 6}: false, {X: 0, Y: 1, C: math.MaxInt}: true, {X: 0, Y: 1, C: math.MinInt}: false,
		{X: 1, Y: 0, C: 20000}: true, {X: 1, Y: 0, C: 19999}: false, {X: 1, Y: -1, C: 10000}: true, {X: 1, Y: -1, C: 9999}: false,
		{X: -1, Y: 0, C: 10000}: true, {X: -1, Y: 0, C: 9999}: false, {X: 0, Y: 0, C: 0}: true, {X: 0, Y: 0, C: -1}: false, {X: -1, Y: -1, C: 0}: true, {X: -1, Y: -1, C: -1}: false,
	} {
		if zone.Implies(z, d) != want {
			t.Errorf("%v: %v", d, !want)
		}
		if !zone.Implies(none, d) {
			t.Errorf("%v, without assignments", d)
		}
	}
}

// P13.1: values that are no values of an assignment, and lists that are too short or too long, are in no zone.
func TestHoldsAnyValues(t *testing.T) {
	loose := func(n int) zone.Zone { return made(n, func(i, j int) int { return 20000 }) }
	for _, n := range []int{1, 2, 24} {
		for _, z := range []zone.Zone{fullOf(n), loose(n)} {
			for _, v := range []int{0, 9999, 10000, -10000, -9999} {
				values := make([]int, n)
				values[n-1] = v
				if !zone.Holds(z, values) || zone.Holds(z, values[1:]) || zone.Holds(z, append(slices.Clone(values), 0)) {
					t.Errorf("%d variables, %d", n, v)
				}
			}
			for _, v := range []int{10001, -10001, 20000, -20000, 1 << 32, -1 << 32, math.MaxInt, math.MinInt, math.MinInt + 1} {
				for at := range n {
					values := make([]int, n)
					values[at] = v
					if zone.Holds(z, values) {
						t.Errorf("%d variables, %d", n, v)
					}
				}
			}
		}
	}
	if !zone.Holds(loose(2), []int{-10000, 10000}) || !zone.Holds(fullOf(2), []int{10000, -10000}) {
		t.Error("the greatest differences")
	}
}

// P13.1: bounds that are greater than those of the full zone permit no more.
func TestLooseBounds(t *testing.T) {
	for n := range 25 {
		z := made(n, func(i, j int) int { return 20000 })
		full := fullOf(n)
		if c, ok := zone.Close(z); !ok || !same(c, full) {
			t.Errorf("%d: %v %v", n, c, ok)
		}
		if !zone.Sub(z, full) || !zone.Sub(full, z) {
			t.Errorf("%d: Sub", n)
		}
		if w, e := zone.Widen(z, full); e != api.OK || !same(w, z) {
			t.Errorf("%d: %v %s", n, w, e.Name())
		}
		if w, e := zone.Widen(full, z); e != api.OK || !same(w, full) {
			t.Errorf("%d: %v %s", n, w, e.Name())
		}
		for x := range n {
			rangeIs(t, z, x, -10000, 10000, true)
		}
		modelIs(t, z, true, slices.Repeat([]int{-10000}, n)...)
	}
}

// P13.1: Widen returns one of the zones where the other one has no assignments: the first one as it is, and the second one closed.
func TestWidenWithout(t *testing.T) {
	a := fresh(t, 2, api.Diff{X: 0, Y: 1, C: -5}, api.Diff{X: 0, Y: -1, C: 3})
	none := fresh(t, 2, api.Diff{X: 0, Y: 1, C: -5}, api.Diff{X: 1, Y: 0, C: 4})
	closed, _ := zone.Close(a)
	if same(a, closed) {
		t.Fatal("the zone is closed")
	}
	for _, c := range []struct{ a, b, want zone.Zone }{{a, none, a}, {none, a, closed}, {none, none, none}, {noneOf(2), none, noneOf(2)}, {none, noneOf(2), none}} {
		if w, e := zone.Widen(c.a, c.b); e != api.OK || !same(w, c.want) {
			t.Errorf("%v and %v: %v %s", c.a, c.b, w, e.Name())
		}
	}
}

// P13.1: cycles with great negative sums are found, also where the sums of going along them ever more often would be too small for an int.
func TestGreatNegativeSums(t *testing.T) {
	random := rand.New(rand.NewSource(132))
	for n := range 25 {
		zones := []zone.Zone{made(n, func(i, j int) int { return never }), made(n, func(i, j int) int {
			if i == j {
				return 0
			}
			return never
		}), made(n, func(i, j int) int {
			if i < j {
				return never
			}
			return 20000
		})}
		for range 10 {
			zones = append(zones, dense(random, n, never, -1), dense(random, n, never, 20000))
		}
		for _, z := range zones {
			f := factsOf(z)
			check(t, question{z: z, other: fullOf(n), x: n - 1, d: api.Diff{X: n - 1, Y: -1, C: -1}}, f, factsOf(fullOf(n)))
		}
	}
}
