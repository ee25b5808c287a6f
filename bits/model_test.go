package bits_test

import (
	"math"
	"math/rand"
	"slices"
	"testing"

	"farandole/bits"
)

const (
	limit = 4096
	ones  = math.MaxUint64
	high  = 1 << 63
)

// model returns the elements of a set as the chapter defines them, in ascending order.
func model(s bits.Set) []int {
	var l []int
	for i, w := range s {
		if i >= 64 {
			break
		}
		for k := range 64 {
			if w%2 == 1 {
				l = append(l, 64*i+k)
			}
			w /= 2
		}
	}
	return l
}

// longSet returns a set of n words of the same value.
func longSet(n int, w uint64) bits.Set {
	s := make(bits.Set, n)
	for i := range s {
		s[i] = w
	}
	return s
}

// lastWord returns a set of n words, of which only the last one is not 0.
func lastWord(n int, w uint64) bits.Set {
	s := make(bits.Set, n)
	s[n-1] = w
	return s
}

// sets returns sets that are valid or not, among them the edge cases of the chapter.
func sets() []bits.Set {
	l := []bits.Set{
		nil, {}, {0}, {0, 0, 0}, longSet(64, 0), longSet(65, 0), longSet(200, 0),
		{1}, {1, 0}, {1, 0, 0, 0}, {2}, {3}, {high}, {high, 1}, {0, 1}, {0, 1, 0}, {32, 1}, {ones}, {ones, 0}, {ones - 1},
		longSet(63, ones), longSet(64, ones), longSet(65, ones), longSet(200, ones),
		lastWord(63, 1), lastWord(64, 1), lastWord(64, high), lastWord(65, 1), lastWord(65, high), lastWord(66, ones), lastWord(200, 1),
		append(longSet(64, 0), 1, 0), append(lastWord(64, high), 0), append(lastWord(64, 1), ones), append(bits.Set{1}, longSet(100, 0)...),
		append(bits.Set{1}, lastWord(64, 1)...),
	}
	return append(l, randomSets(40)...)
}

// fewSets returns sets of few kinds, where all triples of them are tried.
func fewSets() []bits.Set {
	l := []bits.Set{
		nil, {0, 0}, {1}, {1, 0}, {3}, {high, 1}, {0, 1, 0}, {ones, ones},
		longSet(64, ones), longSet(65, ones), lastWord(64, high), lastWord(65, 1), append(bits.Set{1}, lastWord(64, 1)...),
	}
	return append(l, randomSets(8)...)
}

// randomSets returns n sets of 0 to 70 words, dense ones and sparse ones.
func randomSets(n int) []bits.Set {
	random := rand.New(rand.NewSource(3))
	var l []bits.Set
	for range n {
		s := make(bits.Set, random.Intn(71))
		if random.Intn(2) == 0 {
			s = s[:len(s)/20]
		}
		density := random.Intn(4)
		for i := range s {
			s[i] = random.Uint64()
			for range density {
				s[i] &= random.Uint64()
			}
			if random.Intn(3) == 0 {
				s[i] = 0
			}
		}
		l = append(l, s)
	}
	return l
}

// numbers returns numbers within the limits and outside of them.
func numbers() []int {
	l := []int{
		-1, 0, 63, 64, 4095, 4096,
		1, 2, 5, 62, 65, 127, 128, 130, 700, 4031, 4032, 4033, 4094, 4097, 4159, 4160, 12799, 12800,
		-2, -5, -63, -64, -65, -128, -4095, -4096, -4097,
		math.MaxInt, math.MaxInt - 1, math.MaxInt - 63, math.MinInt, math.MinInt + 1, math.MinInt + 63, math.MinInt + 64,
	}
	for k := 12; k < 63; k++ {
		l = append(l, 1<<k, 1<<k+5, -1<<k, -1<<k+5)
	}
	return l
}

// inLimits returns the numbers of a list that can be elements, in ascending order, each once.
func inLimits(l []int) []int {
	in := slices.DeleteFunc(slices.Clone(l), func(n int) bool { return n < 0 || n >= limit })
	slices.Sort(in)
	return slices.Compact(in)
}

// valid reports whether a set is valid, by the definition.
func valid(s bits.Set) bool {
	return len(s) == 0 || len(s) <= 64 && s[len(s)-1] != 0
}

// same tests that a returned set is valid and has these elements.
func same(t *testing.T, what string, s bits.Set, want []int) {
	t.Helper()
	if !valid(s) {
		t.Errorf("%s: not valid: %x", what, s)
	}
	if got := model(s); !slices.Equal(got, want) {
		t.Errorf("%s: got %v, want %v", what, got, want)
	}
}

// eachPair calls f with each pair of sets.
func eachPair(f func(a, b bits.Set)) { pairs(sets(), f) }

// eachFewPair calls f with each pair of the few sets.
func eachFewPair(f func(a, b bits.Set)) { pairs(fewSets(), f) }

func pairs(l []bits.Set, f func(a, b bits.Set)) {
	for _, a := range l {
		for _, b := range l {
			f(a, b)
		}
	}
}

// eachTriple calls f with each triple of the few sets.
func eachTriple(f func(a, b, c bits.Set)) {
	l := fewSets()
	for _, a := range l {
		for _, b := range l {
			for _, c := range l {
				f(a, b, c)
			}
		}
	}
}
