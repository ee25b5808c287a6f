package vclock_test

import (
	"encoding/binary"
	"math"
	"slices"
	"testing"

	"farandole/vclock"
)

const mark = 123456789

// answers calls all functions that return a clock.
func answers(a, b vclock.Clock, role int) []answer {
	return []answer{
		answered(vclock.Zero(len(a))), answered(vclock.Tick(a, role)), answered(vclock.Join(a, b)), answered(vclock.Receive(a, b, role)),
	}
}

// expected returns the answers by the definition, for functions but Zero.
func expected(a, b vclock.Clock, role int) []answer {
	return []answer{answered(ticked(a, role)), answered(joined(a, b)), answered(received(a, b, role))}
}

// roomy returns a copy of a clock, with marked room behind it.
func roomy(c vclock.Clock) vclock.Clock {
	return append(slices.Clone(c), mark, mark, mark)[:len(c)]
}

// stays tests that a roomy copy of c is as it was, with the room behind it.
func stays(t *testing.T, r, c vclock.Clock) {
	t.Helper()
	if !slices.Equal(r, c) || !slices.Equal(r[len(c):len(c)+3], vclock.Clock{mark, mark, mark}) {
		t.Fatalf("%v is changed to %v", c, r[:len(c)+3])
	}
}

// overwrite writes to all places of a clock's capacity.
func overwrite(c vclock.Clock) {
	c = c[:cap(c)]
	for i := range c {
		c[i] = -mark
	}
}

// P2, P7.1: arguments are not modified, also not in their capacity, and share no memory with results; nor do results with each other.
func TestNothingIsShared(t *testing.T) {
	eachPair(few(), func(a, b vclock.Clock) {
		for role := -1; role <= roles; role++ {
			x, y := roomy(a), roomy(b)
			first, second, want := answers(x, y, role), answers(x, y, role), answers(a, b, role)
			compared(x, y)
			vclock.Valid(x)
			for i, got := range first {
				overwrite(got.c)
				for k, other := range first[i+1:] {
					same(t, "a result behind the change of another one", other, want[i+1+k])
				}
			}
			stays(t, x, a)
			stays(t, y, b)
			overwrite(x)
			overwrite(y)
			for i, got := range second {
				same(t, "a result behind the change of all others", got, want[i])
			}
		}
	})
}

// P2: one clock may be both arguments, and clocks may overlap.
func TestOverlappingArguments(t *testing.T) {
	memory := vclock.Clock{1, 3, 0, top, 12, 7, 7, 0, top - 1, 5}
	before := slices.Clone(memory)
	for n := 1; n <= roles; n++ {
		for i := range len(memory) - n + 1 {
			for k := range len(memory) - n + 1 {
				a, b := memory[i:i+n], memory[k:k+n]
				for j, got := range answers(a, b, n-1)[1:] {
					same(t, "overlapping", got, expected(slices.Clone(a), slices.Clone(b), n-1)[j])
				}
				if !slices.Equal(memory, before) {
					t.Fatalf("%v and %v are modified", a, b)
				}
			}
		}
	}
}

// P1: all functions return for long clocks and extreme numbers.
func TestExtremes(t *testing.T) {
	for _, n := range []int{0, 1, 6, 7, 1000, 1000000} {
		for _, entry := range []int{0, 1, top, -1, math.MinInt, math.MaxInt} {
			a, b := filled(n, entry), filled(n+1, entry)
			for _, role := range []int{math.MinInt, -1, 0, n - 1, n, math.MaxInt} {
				for i, got := range answers(a, a, role)[1:] {
					same(t, "equal clocks", got, expected(a, a, role)[i])
				}
				for i, got := range answers(a, b, role)[1:] {
					same(t, "clocks of other lengths", got, expected(a, b, role)[i])
				}
			}
			if compared(a, a) != (relation{equal: true}) || compared(a, b) != (relation{}) || vclock.Valid(a) != valid(a) {
				t.Errorf("%d times %d", n, entry)
			}
		}
	}
}

// P3: the same calls lead to the same results, whatever was called in between.
func TestSameAgain(t *testing.T) {
	l := few()
	type result struct {
		all []answer
		r   relation
	}
	call := func(i, k int) result {
		return result{answers(l[i], l[k], i%7), compared(l[i], l[k])}
	}
	first := map[[2]int]result{}
	for i := range l {
		for k := range l {
			first[[2]int{i, k}] = call(i, k)
		}
	}
	for i := len(l) - 1; i >= 0; i-- {
		for k := len(l) - 1; k >= 0; k-- {
			again, want := call(i, k), first[[2]int{i, k}]
			for n, got := range again.all {
				same(t, "again", got, want.all[n])
			}
			if again.r != want.r {
				t.Fatalf("%v, %v: %v, then %v", l[i], l[k], want.r, again.r)
			}
		}
	}
}

// numbersOf returns the clock with the entries in a byte string, of eight bytes each.
func numbersOf(data []byte) vclock.Clock {
	var c vclock.Clock
	for len(data) >= 8 {
		c = append(c, int(binary.BigEndian.Uint64(data)))
		data = data[8:]
	}
	return c
}

func FuzzClocks(f *testing.F) {
	f.Add([]byte{}, []byte{}, 0)
	f.Add(make([]byte, 16), []byte("\x00\x00\x00\x00\x00\x00\x00\x05\x00\x00\x00\x00\x00\x00\x00\x01"), 1)
	f.Add([]byte("\x00\x00\x01\x00\x00\x00\x00\x00"), make([]byte, 8), 0)
	f.Add(make([]byte, 56), make([]byte, 48), 6)
	f.Fuzz(func(t *testing.T, x, y []byte, role int) {
		a, b := numbersOf(x), numbersOf(y)
		for _, n := range []int{role, role & 7} {
			for i, got := range answers(a, b, n)[1:] {
				same(t, "a result", got, expected(a, b, n)[i])
			}
		}
		if got, want := compared(a, b), related(a, b); got != want {
			t.Errorf("%v, %v: got %v, want %v", a, b, got, want)
		}
		if vclock.Valid(a) != valid(a) {
			t.Errorf("%v: not %v", a, valid(a))
		}
	})
}
