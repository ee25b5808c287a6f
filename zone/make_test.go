package zone_test

import (
	"math/rand"

	"farandole/zone"
)

// pick returns one of some numbers.
func pick(random *rand.Rand, l ...int) int { return l[random.Intn(len(l))] }

// limited returns the nearest bound that is permitted.
func limited(c int) int { return max(never, min(20000, c)) }

// anyValues returns n values, of which many are near to a limit.
func anyValues(random *rand.Rand, n int) []int {
	var out []int
	for range n {
		out = append(out, pick(random, -maxValue, -maxValue+random.Intn(4), random.Intn(5)-2, random.Intn(2*maxValue+1)-maxValue, maxValue-random.Intn(4), maxValue))
	}
	return out
}

// around returns a zone with an assignment, whose differences are at most some number less than the bounds.
func around(random *rand.Rand, values []int, slack int) zone.Zone {
	return made(len(values), func(i, j int) int {
		if i != j && random.Intn(3) == 0 {
			return widest(i, j)
		}
		return limited(numberOf(values, i) - numberOf(values, j) + random.Intn(slack+1))
	})
}

// sparse returns the full zone with a few smaller bounds.
func sparse(random *rand.Rand, n, bounds, scale int) zone.Zone {
	z := fullOf(n)
	for range bounds {
		at := random.Intn(len(z.B))
		z.B[at] = min(z.B[at], limited(random.Intn(2*scale+1)-scale/2))
	}
	for i := range n + 1 {
		z.B[i*(n+1)+i] = pick(random, 0, 0, 0, 1, 20000)
	}
	return z
}

// dense returns a zone with any bounds of some size.
func dense(random *rand.Rand, n, least, most int) zone.Zone {
	return made(n, func(i, j int) int { return limited(least + random.Intn(most-least+1)) })
}

// ring returns a zone with a cycle of bounds through all numbers, which have a sum.
func ring(random *rand.Rand, n, sum int) zone.Zone {
	z := fullOf(n)
	way := random.Perm(n + 1)
	rest := sum
	for k := range way {
		c := random.Intn(801) - 400
		if k == n {
			c = rest
		}
		rest -= c
		z.B[way[k]*(n+1)+way[(k+1)%(n+1)]] = limited(c)
	}
	return z
}

// zoneFor returns a zone of n variables, of one of several kinds.
func zoneFor(random *rand.Rand, n int) zone.Zone {
	switch random.Intn(8) {
	case 0:
		return around(random, anyValues(random, n), 0)
	case 1, 2:
		return around(random, anyValues(random, n), pick(random, 1, 5, 1000, 20000))
	case 3, 4:
		return sparse(random, n, random.Intn(3*n+2), pick(random, 5, 1000, 30000))
	case 5:
		return dense(random, n, pick(random, never, -500, -2, 0), pick(random, 0, 3, 20000))
	case 6:
		return ring(random, n, pick(random, -1, 0, 1, -5, 5))
	}
	return made(n, func(i, j int) int {
		return pick(random, never, -20000, -10001, -10000, -9999, -1, 0, 1, 9999, 10000, 10001, 20000)
	})
}

// larger returns a zone with greater bounds at some places, and the same ones at all others.
func larger(random *rand.Rand, z zone.Zone) zone.Zone {
	return made(z.N, func(i, j int) int {
		if random.Intn(3) > 0 {
			return boundOf(z, i, j)
		}
		return limited(boundOf(z, i, j) + random.Intn(pick(random, 2, 100, 20000)))
	})
}

// chosen returns an assignment of a zone with these facts, in which any value is chosen for one variable after the other: as great or as small as possible, or in between.
func chosen(random *rand.Rand, f facts) []int {
	values := make([]int, len(f.least))
	placed := []int{0}
	for _, x := range random.Perm(len(values)) {
		lo, hi := -maxValue, maxValue
		for _, i := range placed {
			lo = max(lo, numberOf(values, i)-f.greatest[i][x+1])
			hi = min(hi, numberOf(values, i)+f.greatest[x+1][i])
		}
		values[x] = pick(random, lo, hi, lo+random.Intn(hi-lo+1))
		placed = append(placed, x+1)
	}
	return values
}

// near returns values that are others, but for a small change of a few of them.
func near(random *rand.Rand, values []int) []int {
	out := append([]int{}, values...)
	for range random.Intn(3) {
		if len(out) > 0 {
			out[random.Intn(len(out))] += pick(random, -1, 1, -100, 100, -maxValue, maxValue)
		}
	}
	return out
}

// broken returns zones that are not valid.
func broken() []zone.Zone {
	l := []zone.Zone{
		{}, {B: []int{}}, {B: []int{0, 0}}, {N: 1}, {N: 1, B: []int{0, 0, 0}}, {N: 1, B: []int{0, 0, 0, 0, 0}}, {N: 2, B: make([]int, 4)}, {N: 1, B: make([]int, 9)},
		{N: -1}, {N: -1, B: []int{0}}, {N: -2, B: []int{0}}, {N: -2}, {N: -3, B: make([]int, 4)}, {N: -25, B: make([]int, 576)}, {N: -26, B: make([]int, 625)},
		{N: 25}, fullOf(25), fullOf(26), fullOf(100), {N: 24, B: make([]int, 624)}, {N: 24, B: make([]int, 626)}, {N: 24, B: make([]int, 676)}, {N: 25, B: make([]int, 625)},
		{N: 1<<32 - 1}, {N: -1<<32 - 1}, {N: 1 << 32, B: []int{0}}, {N: 1<<63 - 1}, {N: -1 << 63}, {N: -1 << 63, B: []int{0}},
	}
	for _, n := range []int{0, 1, 2, 24} {
		for _, c := range []int{never - 1, 20001, 1 << 32, -1 << 32, 1<<63 - 1, -1 << 63} {
			for _, at := range []int{0, n, (n + 1) * n, (n+1)*(n+1) - 1} {
				z := fullOf(n)
				z.B[at] = c
				l = append(l, z)
			}
		}
	}
	return l
}
