package zone_test

import (
	"encoding/binary"
	"math"
	"math/rand"
	"slices"
	"testing"

	"farandole/api"
	"farandole/zone"
)

const mark = 123456789

// P1: all functions return for long lists and extreme numbers.
func TestExtremes(t *testing.T) {
	long := make([]int, 1000000)
	for _, z := range append(broken(), zone.Zone{N: 999, B: long}, zone.Zone{N: 24, B: long}, zone.Zone{N: 24, B: long[:625]}, fullOf(24), noneOf(24)) {
		f := factsOf(z)
		for _, values := range [][]int{nil, long, long[:24], {math.MinInt}, {math.MaxInt}} {
			for _, n := range []int{math.MinInt, -2, -1, 0, 24, math.MaxInt} {
				check(t, question{z: z, other: z, d: api.Diff{X: n, Y: 23 - n, C: n}, x: n, values: values}, f, f)
			}
		}
	}
}

// roomy returns a copy of a list, with marked room behind it.
func roomy(l []int) []int { return append(slices.Clone(l), mark, mark, mark)[:len(l)] }

func roomyZone(z zone.Zone) zone.Zone { return zone.Zone{N: z.N, B: roomy(z.B)} }

// stays tests that a roomy copy is as it was, with the room behind it.
func stays(t *testing.T, l, want []int) {
	t.Helper()
	if !slices.Equal(l, want) || !slices.Equal(l[len(l):len(l)+3], []int{mark, mark, mark}) {
		t.Fatalf("%v is changed to %v", want, l[:len(l)+3])
	}
}

// overwrite writes to all places of the capacities of the answers.
func (s answers) overwrite() {
	for _, l := range [][]int{s.added.B, s.closed.B, s.joined.B, s.widened.B, s.forgotten.B, s.model} {
		for i := range l[:cap(l)] {
			l[:cap(l)][i] = -mark
		}
	}
}

// questions returns arguments of many kinds.
func questions(seed int64) []question {
	random := rand.New(rand.NewSource(seed))
	var out []question
	for range 400 {
		n := random.Intn(8)
		z := zoneFor(random, n)
		other := zoneFor(random, n)
		if random.Intn(3) == 0 {
			other = larger(random, z)
		}
		out = append(out, question{z, other, someBound(random, n, factsOf(z)), random.Intn(n + 1), someValues(random, n, factsOf(z))})
	}
	for _, z := range broken() {
		out = append(out, question{z: z, other: fullOf(1)}, question{z: fullOf(2), other: z})
	}
	return append(out, question{z: fullOf(24), other: noneOf(24), d: api.Diff{X: 23, Y: 5, C: 50000}, values: make([]int, 24)}, question{z: noneOf(24), other: fullOf(24)})
}

// P2: arguments are not modified, also not in their capacity, and share no memory with results; nor do results with each other.
func TestNothingIsShared(t *testing.T) {
	for _, q := range questions(1) {
		r := question{roomyZone(q.z), roomyZone(q.other), q.d, q.x, roomy(q.values)}
		first, second, want := answersOf(r), answersOf(r), answersOf(q)
		first.overwrite()
		stays(t, r.z.B, q.z.B)
		stays(t, r.other.B, q.other.B)
		stays(t, r.values, q.values)
		if !second.equal(want) {
			t.Fatalf("%v: the change of a result changes another one", q)
		}
		for _, l := range [][]int{r.z.B, r.other.B, r.values} {
			for i := range l {
				l[i] = -mark
			}
		}
		if !second.equal(want) {
			t.Fatalf("%v: the change of arguments changes a result", q)
		}
	}
}

// P2: what New returns is new memory, and so are two results for the same zones.
func TestNewMemory(t *testing.T) {
	for n := range 25 {
		a, _ := zone.New(n)
		b, _ := zone.New(n)
		for i := range a.B[:cap(a.B)] {
			a.B[:cap(a.B)][i] = mark
		}
		if c, _ := zone.New(n); !same(b, fullOf(n)) || !same(c, b) {
			t.Errorf("%d: %v and %v", n, b, c)
		}
	}
	z, none := fullOf(2), noneOf(2)
	for _, r := range []func() (zone.Zone, api.Errno){
		func() (zone.Zone, api.Errno) { return zone.Join(z, z) },
		func() (zone.Zone, api.Errno) { return zone.Widen(z, z) },
		func() (zone.Zone, api.Errno) { return zone.Widen(z, none) },
		func() (zone.Zone, api.Errno) { return zone.Widen(none, z) },
		func() (zone.Zone, api.Errno) { return zone.Add(z, api.Diff{C: 5}) },
		func() (zone.Zone, api.Errno) { return zone.Forget(z, 1) },
	} {
		a, e := r()
		b, _ := r()
		a.B[0] = mark
		if e != api.OK || !same(b, fullOf(2)) || !same(z, fullOf(2)) || !same(none, noneOf(2)) {
			t.Errorf("%v %s: %v and %v", b, e.Name(), z, none)
		}
	}
}

// P3: the same calls lead to the same results, whatever was called in between.
func TestSameAgain(t *testing.T) {
	all := questions(2)
	var first []answers
	for _, q := range all {
		first = append(first, answersOf(q))
	}
	for i, q := range slices.Backward(all) {
		again := question{copyOf(q.z), copyOf(q.other), q.d, q.x, slices.Clone(q.values)}
		if !answersOf(q).equal(first[i]) || !answersOf(again).equal(first[i]) {
			t.Fatalf("%v: %v, then %v", q, first[i], answersOf(q))
		}
	}
}

// zonesOf reads two zones and values from bytes: the number of variables, then two bytes for each bound and value.
func zonesOf(data []byte) (a, b zone.Zone, values []int) {
	n := 0
	if len(data) > 0 {
		n, data = int(int8(data[0])), data[1:]
	}
	size := max(0, (n+1)*(n+1))
	a.N, b.N = n, n
	for ; len(data) >= 2; data = data[2:] {
		c := int(int16(binary.BigEndian.Uint16(data)))
		switch {
		case len(a.B) < size:
			a.B = append(a.B, c)
		case len(b.B) < size:
			b.B = append(b.B, c)
		default:
			values = append(values, c)
		}
	}
	return a, b, values
}

func FuzzZone(f *testing.F) {
	f.Add([]byte{}, 0, 0, 0, 0)
	f.Add([]byte{0, 0, 0, 0, 5}, -1, -1, -1, 0)
	f.Add([]byte{1, 0, 0, 0, 7, 0, 9, 0, 0, 0, 0, 0xff, 0xf0, 0, 100, 0, 0, 0, 8}, 0, -1, 5, 0)
	f.Add([]byte{2, 0, 0, 0, 1, 0, 2, 0, 3, 0, 0, 0, 4, 0, 5, 0, 6, 0, 0, 0, 0, 0, 1, 0, 2, 0xff, 0xff, 0, 0, 0, 4, 0, 5, 0, 6, 0, 0, 0, 1, 0, 1}, 1, 0, -3, 1)
	f.Add([]byte{1, 0x27, 0x10, 0xd8, 0xf0, 0x4e, 0x20, 0xb1, 0xdf, 0x27, 0x11, 0x27, 0x10, 0x27, 0x10, 0, 0}, 0, 0, -20001, 0)
	f.Add(append([]byte{255}, 1, 2), 0, 0, 0, -1)
	f.Fuzz(func(t *testing.T, data []byte, x, y, c, v int) {
		a, b, values := zonesOf(data)
		known, other := factsOf(a), factsOf(b)
		if !known.proven(a) || !other.proven(b) {
			t.Errorf("%v or %v: the facts are wrong", a, b)
		}
		d := api.Diff{X: x, Y: y, C: c}
		check(t, question{a, b, d, v, values}, known, other)
		check(t, question{b, a, d, v, values}, other, known)
		if z, e := zone.Add(a, d); e == api.OK {
			check(t, question{z, a, d, v, values}, factsOf(z), known)
		}
	})
}
