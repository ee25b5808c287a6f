package zone_test

import (
	"math/rand"
	"slices"
	"testing"

	"farandole/api"
	"farandole/zone"
)

// eachZone calls a test with many zones of up to 24 variables, and what is known of them.
func eachZone(seed int64, count int, test func(random *rand.Rand, z zone.Zone, f facts)) {
	random := rand.New(rand.NewSource(seed))
	for i := range count {
		n := random.Intn(7)
		if i%10 == 0 {
			n = 7 + random.Intn(18)
		}
		z := zoneFor(random, n)
		if i%3 == 0 {
			z, _ = window(random, n)
		}
		test(random, z, factsOf(z))
	}
}

// someValues returns values for the variables of a zone, of which many are in it, or nearly so.
func someValues(random *rand.Rand, n int, f facts) []int {
	if !f.some || random.Intn(6) == 0 {
		return anyValues(random, n)
	}
	return near(random, chosen(random, f))
}

// someBound returns a bound that is about as great as the difference.
func someBound(random *rand.Rand, n int, f facts) api.Diff {
	d := api.Diff{X: random.Intn(n+1) - 1, Y: random.Intn(n+1) - 1, C: random.Intn(40002) + never}
	if f.some {
		d.C = f.greatest[d.X+1][d.Y+1] + pick(random, -1, 0, 1, -1-random.Intn(100), random.Intn(100))
	}
	return d
}

// keeps reports whether values keep a bound.
func keeps(values []int, d api.Diff) bool {
	return numberOf(values, d.X+1)-numberOf(values, d.Y+1) <= d.C
}

// P13.2: Close has the same assignments, and closing again changes nothing.
func TestClosing(t *testing.T) {
	in, out := 0, 0
	eachZone(2, 3000, func(random *rand.Rand, z zone.Zone, f facts) {
		c, ok := zone.Close(z)
		for range 10 {
			values := someValues(random, z.N, f)
			if zone.Holds(c, values) != (ok && zone.Holds(z, values)) || inside(z, values) && !ok {
				t.Fatalf("%v, closed %v: %v", z, c, values)
			}
			if zone.Holds(z, values) {
				in++
			} else {
				out++
			}
		}
		again, still := zone.Close(c)
		if still != ok || !same(again, c) || ok && (!zone.Sub(c, z) || !zone.Sub(z, c)) {
			t.Fatalf("%v, closed %v, again %v", z, c, again)
		}
	})
	if in < 5000 || out < 5000 {
		t.Errorf("%d assignments inside, %d outside", in, out)
	}
}

// P13.3: a bound that is not implied is violated by an assignment of the zone; adding one that is implied changes no assignment.
func TestImplication(t *testing.T) {
	yes, no := 0, 0
	eachZone(3, 5000, func(random *rand.Rand, z zone.Zone, f facts) {
		d := someBound(random, z.N, f)
		if zone.Implies(z, d) {
			yes++
			more := with(t, z, d)
			a, some := zone.Close(z)
			b, still := zone.Close(more)
			if some != still || !same(a, b) || !zone.Sub(z, more) || !zone.Sub(more, z) {
				t.Fatalf("%v implies %v: %v and %v", z, d, a, b)
			}
			for range 10 {
				if values := someValues(random, z.N, f); zone.Holds(z, values) != zone.Holds(more, values) || zone.Holds(z, values) && !keeps(values, d) {
					t.Fatalf("%v implies %v: %v", z, d, values)
				}
			}
			return
		}
		no++
		// The bound is violated where the other difference is small enough.
		m, ok := zone.Model(with(t, z, api.Diff{X: d.Y, Y: d.X, C: -d.C - 1}))
		if !ok || !zone.Holds(z, m) || !inside(z, m) || keeps(m, d) {
			t.Fatalf("%v does not imply %v: %v %v", z, d, m, ok)
		}
	})
	if yes < 1000 || no < 1000 {
		t.Errorf("%d bounds are implied, %d are not", yes, no)
	}
}

// P13.4: Join contains both zones, and is a part of each zone that does; Widen contains Join.
func TestUnion(t *testing.T) {
	parts, others := 0, 0
	eachZone(4, 3000, func(random *rand.Rand, a zone.Zone, f facts) {
		b := zoneFor(random, a.N)
		if random.Intn(3) == 0 {
			b = larger(random, a)
		}
		j, e := zone.Join(a, b)
		w, e2 := zone.Widen(a, b)
		if e != api.OK || e2 != api.OK || !zone.Sub(a, j) || !zone.Sub(b, j) || !zone.Sub(j, w) {
			t.Fatalf("%v and %v: %v and %v", a, b, j, w)
		}
		for _, known := range []facts{f, factsOf(b)} {
			values := someValues(random, a.N, known)
			if (inside(a, values) || inside(b, values)) && (!zone.Holds(j, values) || !zone.Holds(w, values)) {
				t.Fatalf("%v and %v: %v and %v do not have %v", a, b, j, w, values)
			}
		}
		for _, c := range []zone.Zone{zoneFor(random, a.N), larger(random, a), larger(random, b), larger(random, j), w, a, b, fullOf(a.N), with(t, j, someBound(random, a.N, factsOf(j)))} {
			if !zone.Sub(a, c) || !zone.Sub(b, c) {
				others++
				continue
			}
			parts++
			if !zone.Sub(j, c) {
				t.Fatalf("%v and %v are parts of %v, but %v is not", a, b, c, j)
			}
		}
	})
	if parts < 3000 || others < 3000 {
		t.Errorf("%d zones contain both, %d do not", parts, others)
	}
}

// P13.1: a zone is a part of another one exactly if each of its assignments is in it.
func TestParts(t *testing.T) {
	yes, no := 0, 0
	eachZone(5, 4000, func(random *rand.Rand, a zone.Zone, f facts) {
		b := larger(random, a)
		if f.some {
			b = with(t, b, someBound(random, a.N, f))
		}
		if random.Intn(4) == 0 {
			b = zoneFor(random, a.N)
		}
		if !zone.Sub(a, b) {
			no++
			// Some bound of the other zone is violated, if only a little.
			for x := -1; x < a.N; x++ {
				for y := -1; y < a.N; y++ {
					if m, ok := zone.Model(with(t, a, api.Diff{X: y, Y: x, C: -min(boundOf(b, x+1, y+1), widest(x+1, y+1)) - 1})); ok {
						if !inside(a, m) || inside(b, m) {
							t.Fatalf("%v and %v: %v", a, b, m)
						}
						return
					}
				}
			}
			t.Fatalf("%v is no part of %v", a, b)
		}
		yes++
		for range 10 {
			if values := someValues(random, a.N, f); inside(a, values) && !inside(b, values) {
				t.Fatalf("%v is a part of %v, but %v is not in it", a, b, values)
			}
		}
	})
	if yes < 1000 || no < 1000 {
		t.Errorf("%d zones are parts, %d are not", yes, no)
	}
}

// changes returns how often a zone changes if it is widened by one zone of a list after the other, until none of them changes it.
func changes(t *testing.T, z zone.Zone, l []zone.Zone) int {
	t.Helper()
	count := 0
	for changed := true; changed; {
		changed = false
		for _, other := range l {
			next, e := zone.Widen(z, other)
			if e != api.OK {
				t.Fatalf("%v and %v: %s", z, other, e.Name())
			}
			if !same(next, z) {
				z, changed = next, true
				count++
			}
			if count > (z.N+1)*(z.N+1) {
				t.Fatalf("%v by %v: %d changes", z, l, count)
			}
		}
	}
	for _, other := range l {
		if !zone.Sub(other, z) {
			t.Fatalf("%v does not contain %v", z, other)
		}
	}
	return count
}

// P13.4: widening by one zone after the other, over and over again, comes to an end after at most (N+1) times (N+1) changes.
func TestWideningEnds(t *testing.T) {
	eachZone(6, 1500, func(random *rand.Rand, z zone.Zone, f facts) {
		l := []zone.Zone{zoneFor(random, z.N)}
		for range random.Intn(8) {
			l = append(l, larger(random, z), zoneFor(random, z.N), larger(random, l[0]))
		}
		changes(t, z, l)
		changes(t, noneOf(z.N), l)
	})
}

// P13.4: each bound of two different numbers can be given up in a change of its own, behind the one from a zone without assignments.
func TestWideningOneByOne(t *testing.T) {
	for n := range 25 {
		// Each of these bounds can be greater alone: the zone is still closed.
		grown := made(n, func(i, j int) int {
			if i == j {
				return 0
			}
			return 10
		})
		l := []zone.Zone{grown}
		for at := range (n + 1) * (n + 1) {
			if at/(n+1) != at%(n+1) {
				more := copyOf(grown)
				more.B[at]++
				l = append(l, more)
			}
		}
		if count := changes(t, noneOf(n), l); count != 1+n*(n+1) {
			t.Errorf("%d variables: %d changes", n, count)
		}
	}
}

// P13.5: an assignment is in Forget exactly if, with another value of the variable, it is in the zone.
func TestForgetting(t *testing.T) {
	yes, no := 0, 0
	eachZone(7, 3000, func(random *rand.Rand, z zone.Zone, f facts) {
		if z.N == 0 {
			return
		}
		x := random.Intn(z.N)
		forgotten, e := zone.Forget(z, x)
		if e != api.OK || !valid(forgotten) {
			t.Fatalf("%v without %d: %v %s", z, x, forgotten, e.Name())
		}
		for range 10 {
			values := someValues(random, z.N, f)
			values[x] = pick(random, values[x], -maxValue, maxValue, random.Intn(2*maxValue+1)-maxValue)
			// The least value that the others permit is in the zone if any one is.
			other := slices.Clone(values)
			other[x] = -maxValue
			for i := 0; i <= z.N; i++ {
				if i != x+1 {
					other[x] = max(other[x], numberOf(values, i)-boundOf(z, i, x+1))
				}
			}
			want := inside(z, other) && inside(fullOf(z.N), values)
			if zone.Holds(forgotten, values) != want {
				t.Fatalf("%v without %d, %v: %v is inside: %v", z, x, forgotten, values, !want)
			}
			if want {
				yes++
			} else {
				no++
			}
		}
		if f.some {
			rangeIs(t, forgotten, x, -maxValue, maxValue, true)
		}
	})
	if yes < 5000 || no < 5000 {
		t.Errorf("%d assignments inside, %d outside", yes, no)
	}
}

// P13.6: a zone has a model exactly if it is not empty; the model is in the zone, and no smaller assignment is.
func TestModels(t *testing.T) {
	eachZone(8, 3000, func(random *rand.Rand, z zone.Zone, f facts) {
		m, ok := zone.Model(z)
		if _, closes := zone.Close(z); ok != closes || ok != f.some {
			t.Fatalf("%v: %v", z, ok)
		}
		if !ok {
			return
		}
		if !zone.Holds(z, m) || !inside(z, m) {
			t.Fatalf("%v: %v is outside", z, m)
		}
		rest := z
		for x, v := range m {
			if _, smaller := zone.Close(with(t, rest, api.Diff{X: x, Y: -1, C: v - 1})); smaller {
				t.Fatalf("%v: %v, but there is a smaller one", z, m)
			}
			rest = with(t, rest, api.Diff{X: x, Y: -1, C: v})
		}
		for range 10 {
			if values := someValues(random, z.N, f); inside(z, values) && slices.Compare(values, m) < 0 {
				t.Fatalf("%v: %v, but %v is smaller", z, m, values)
			}
		}
	})
}

// P13.1: the least and the greatest value of a variable are those of assignments, and there are no others.
func TestRanges(t *testing.T) {
	eachZone(9, 3000, func(random *rand.Rand, z zone.Zone, f facts) {
		for x := range z.N {
			least, most, ok := zone.Range(z, x)
			if ok != f.some || !ok && (least != 0 || most != 0) {
				t.Fatalf("%v: %d %d %v", z, least, most, ok)
			}
			if !ok {
				continue
			}
			for _, v := range []int{least, most} {
				if m, some := zone.Model(with(t, z, api.Diff{X: x, Y: -1, C: v}, api.Diff{X: -1, Y: x, C: -v})); !some || m[x] != v || !inside(z, m) {
					t.Fatalf("%v: the variable %d is not %d", z, x, v)
				}
			}
			if !zone.Implies(z, api.Diff{X: x, Y: -1, C: most}) || !zone.Implies(z, api.Diff{X: -1, Y: x, C: -least}) {
				t.Fatalf("%v: the variable %d is not from %d to %d", z, x, least, most)
			}
		}
	})
}

// P13.7: functions return valid zones, but for zero zones with an error or false.
func TestValidity(t *testing.T) {
	test := func(q question) {
		s := answersOf(q)
		good := []bool{s.errors[0] == api.OK, s.errors[1] == api.OK, s.errors[2] == api.OK, s.errors[3] == api.OK, s.closes}
		for i, z := range []zone.Zone{s.added, s.joined, s.widened, s.forgotten, s.closed} {
			if good[i] && (!valid(z) || z.N != q.z.N || !zone.Valid(z)) || !good[i] && !same(z, zone.Zone{}) {
				t.Fatalf("%v: result %d is %v", q, i, z)
			}
		}
	}
	eachZone(10, 2000, func(random *rand.Rand, z zone.Zone, f facts) {
		other := zoneFor(random, max(0, min(24, z.N+pick(random, 0, 0, 0, 1, -1))))
		d := api.Diff{X: random.Intn(z.N+2) - 1, Y: random.Intn(z.N+2) - 1, C: pick(random, never-1, never, -1<<63, 1<<63-1, random.Intn(60000)-30000)}
		test(question{z, other, d, random.Intn(z.N + 1), nil})
	})
	all := append(broken(), fullOf(1), noneOf(1), fullOf(24))
	for i, z := range all {
		test(question{z, all[(i+1)%len(all)], api.Diff{X: i%3 - 1, Y: 0, C: -i}, i % 3, nil})
	}
}
