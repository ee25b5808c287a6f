package zone_test

import (
	"math/rand"
	"slices"
	"testing"

	"farandole/api"
	"farandole/zone"
)

// P13.1: all functions for zones of one variable with bounds near to the limits, by all assignments.
func TestOneVariable(t *testing.T) {
	random := rand.New(rand.NewSource(133))
	all := make([]int, 2*maxValue+1)
	for i := range all {
		all[i] = i - maxValue
	}
	bounds := []int{never, -20000, -10001, -10000, -9999, -1, 0, 1, 9999, 10000, 10001, 20000}
	var zones []zone.Zone
	var known []facts
	for _, hi := range bounds {
		for _, lo := range bounds {
			z := zone.Zone{N: 1, B: []int{pick(random, 0, 0, 3, 20000), lo, hi, pick(random, 0, 0, 1, 20000)}}
			if random.Intn(30) == 0 {
				z.B[pick(random, 0, 3)] = pick(random, -1, never)
			}
			zones = append(zones, z)
			known = append(known, factsOfList(1, assignments(z, [][]int{all})))
		}
	}
	for i, z := range zones {
		for k, other := range zones {
			check(t, question{z, other, api.Diff{X: k%3 - 1, Y: i%3 - 1, C: bounds[k%12] + i%3 - 1}, k%4 - 1, []int{bounds[i%12]}}, known[i], known[k])
		}
		check(t, question{z, z, api.Diff{X: 0, Y: -1, C: -5}, 0, []int{random.Intn(30001) - 15000}}, known[i], known[i])
	}
}

// P13.1: all functions for all zones of two variables with the bounds -1, 0 and 1, by all assignments.
func TestTwoVariables(t *testing.T) {
	var zones []zone.Zone
	var known []facts
	values := []int{-1, 0, 1}
	for _, l := range product([][]int{values, values, values, values, values, values}) {
		z := zone.Zone{N: 2, B: []int{0, l[0], l[1], l[2], 0, l[3], l[4], l[5], 0}}
		zones = append(zones, z)
		known = append(known, factsOfList(2, assignments(z, [][]int{values, values})))
	}
	some := product([][]int{{-2, -1, 0, 1, 2}, {-2, -1, 0, 1, 2}})
	for i, z := range zones {
		for k := i % 4; k < len(zones); k += 4 {
			check(t, question{z, zones[k], api.Diff{X: k%3 - 1, Y: k/3%3 - 1, C: k/9%5 - 2}, i % 2, some[k%25]}, known[i], known[k])
		}
	}
}

// window returns a zone of n variables of which each one has a few values only, and these.
func window(random *rand.Rand, n int) (zone.Zone, [][]int) {
	values := make([]int, n)
	choices := make([][]int, n)
	for x := range n {
		values[x] = pick(random, -maxValue, -9999, -1, 0, 1, 2, 9999, maxValue)
		for v := max(values[x]-2, -maxValue); v <= min(values[x]+2, maxValue); v++ {
			choices[x] = append(choices[x], v)
		}
	}
	tight := random.Intn(5)
	z := made(n, func(i, j int) int {
		d := numberOf(values, i) - numberOf(values, j)
		switch {
		case i == j:
			return pick(random, 0, 0, 1, 20000)
		case i == 0 || j == 0:
			return limited(d + random.Intn(3))
		case random.Intn(3) == 0:
			return pick(random, 20000, widest(i, j))
		}
		return limited(d + random.Intn(8) - tight)
	})
	if random.Intn(20) == 0 {
		at := random.Intn(len(z.B))
		z.B[at] = min(z.B[at], pick(random, never, -1))
	}
	return z, choices
}

// P13.1: all functions for zones of up to four variables with a few values, by all assignments.
func TestWindows(t *testing.T) {
	random := rand.New(rand.NewSource(134))
	empty, more := 0, 0
	for range 12000 {
		n := 1 + random.Intn(3) + random.Intn(2)
		z, choices := window(random, n)
		f := factsOfList(n, assignments(z, choices))
		other := larger(random, z)
		g := factsOf(other)
		if random.Intn(3) == 0 {
			other, choices = window(random, n)
			g = factsOfList(n, assignments(other, choices))
		}
		d := api.Diff{X: random.Intn(n+2) - 1, Y: random.Intn(n+2) - 1, C: random.Intn(21) - 10}
		if f.some && random.Intn(2) == 0 {
			d.X, d.Y = random.Intn(n+1)-1, random.Intn(n+1)-1
			d.C = f.greatest[d.X+1][d.Y+1] + random.Intn(3) - 1
		}
		values := anyValues(random, n)
		if f.some && random.Intn(4) > 0 {
			values = near(random, chosen(random, f))
		}
		check(t, question{z, other, d, random.Intn(n), values}, f, g)
		check(t, question{other, z, d, random.Intn(n), values}, g, f)
		if f.some {
			more++
		} else {
			empty++
		}
	}
	if empty < 1000 || more < 3000 {
		t.Errorf("%d zones without assignments, %d with some", empty, more)
	}
}

// P13.1: the facts by paths, with which larger zones are compared, are those by all assignments.
func TestPathsAndAssignments(t *testing.T) {
	random := rand.New(rand.NewSource(135))
	for range 3000 {
		n := random.Intn(5)
		z, choices := window(random, n)
		f, g := factsOf(z), factsOfList(n, assignments(z, choices))
		if f.some != g.some || !same(f.closed(), g.closed()) || !slices.Equal(f.least, g.least) || !f.proven(z) {
			t.Fatalf("%v: %v and %v", z, f, g)
		}
	}
}

// P13.1: all functions for zones of up to 24 variables, by the lengths of paths.
func TestManyVariables(t *testing.T) {
	random := rand.New(rand.NewSource(136))
	empty, more := 0, 0
	for i := range 1500 {
		n := random.Intn(10)
		if i%4 == 0 {
			n = 10 + random.Intn(15)
		}
		z := zoneFor(random, n)
		other := zoneFor(random, n)
		if random.Intn(2) == 0 {
			other = larger(random, z)
		}
		f, g := factsOf(z), factsOf(other)
		if !f.proven(z) || !g.proven(other) {
			t.Fatalf("%v or %v: the facts are wrong", z, other)
		}
		for range 4 {
			d := api.Diff{X: random.Intn(n+2) - 1, Y: random.Intn(n+2) - 1, C: random.Intn(50001) - 25000}
			values := anyValues(random, n)
			if f.some {
				d.X, d.Y = random.Intn(n+1)-1, random.Intn(n+1)-1
				d.C = f.greatest[d.X+1][d.Y+1] + random.Intn(3) - 1
				values = near(random, chosen(random, f))
			}
			check(t, question{z, other, d, random.Intn(n + 1), values}, f, g)
			check(t, question{other, z, d, random.Intn(n + 1), values}, g, f)
		}
		if f.some {
			more++
		} else {
			empty++
		}
	}
	if empty < 300 || more < 500 {
		t.Errorf("%d zones without assignments, %d with some", empty, more)
	}
}

// P13.1: a cycle of bounds through all numbers decides by its sum.
func TestRings(t *testing.T) {
	random := rand.New(rand.NewSource(137))
	for n := range 25 {
		for sum := -3; sum <= 3; sum++ {
			z := ring(random, n, sum)
			c, ok := zone.Close(z)
			_, models := zone.Model(z)
			_, _, ranges := zone.Range(z, 0)
			if ok != (sum >= 0) || models != ok || ranges != (ok && n > 0) {
				t.Errorf("%v with the sum %d: %v %v %v", z, sum, c, ok, models)
			}
		}
	}
}
