package bits_test

import (
	"math/rand"
	"slices"
	"testing"

	"farandole/bits"
)

// P3.1: a set is valid if it has at most 64 words, and the last word is not 0.
func TestValid(t *testing.T) {
	for i, c := range []struct {
		s    bits.Set
		want bool
	}{
		{nil, true}, {bits.Set{}, true},
		{bits.Set{1}, true}, {bits.Set{high}, true}, {bits.Set{0, 1}, true}, {bits.Set{32, 1}, true},
		{bits.Set{0}, false}, {bits.Set{0, 0}, false}, {bits.Set{1, 0}, false}, {bits.Set{1, 0, 0}, false},
		{longSet(63, 1), true}, {longSet(64, 1), true}, {lastWord(64, high), true}, {longSet(64, 0), false},
		{longSet(65, 1), false}, {lastWord(65, 1), false}, {longSet(65, 0), false}, {longSet(66, 1), false}, {longSet(1000, 1), false},
		{append(longSet(63, 1), 0), false}, {append(longSet(64, 1), 0), false}, {append(longSet(64, 0), 1), false},
	} {
		if bits.Valid(c.s) != c.want {
			t.Errorf("%d: %x: not %v", i, c.s, c.want)
		}
	}
	for _, s := range sets() {
		if bits.Valid(s) != valid(s) {
			t.Errorf("%x: not %v", s, valid(s))
		}
	}
	if bits.MaxWords != 64 {
		t.Error("MaxWords")
	}
}

// P3.1: Make returns these words.
func TestMakeWords(t *testing.T) {
	for _, c := range []struct {
		l    []int
		want bits.Set
	}{
		{nil, nil}, {[]int{}, nil},
		{[]int{5, 64, 5, -1}, bits.Set{32, 1}},
		{[]int{0}, bits.Set{1}}, {[]int{63}, bits.Set{high}}, {[]int{64}, bits.Set{0, 1}}, {[]int{127, 0}, bits.Set{1, high}},
		{[]int{4095}, lastWord(64, high)}, {[]int{4032}, lastWord(64, 1)}, {[]int{4031}, lastWord(63, high)},
		{[]int{-1}, nil}, {[]int{4096}, nil}, {[]int{-1, 4096, 0, 4096, -1}, bits.Set{1}},
		{[]int{-64}, nil}, {[]int{-63, -4096, 4096 + 64}, nil},
		{[]int{3, 2, 1, 0, 3, 2, 1, 0}, bits.Set{15}},
	} {
		if s := bits.Make(c.l); !slices.Equal(s, c.want) {
			t.Errorf("%v: got %x, want %x", c.l, s, c.want)
		}
	}
}

// P3.1: each number is made an element, or ignored, alone and among others.
func TestMake(t *testing.T) {
	for n := -200; n < limit+200; n++ {
		same(t, "one number", bits.Make([]int{n}), inLimits([]int{n}))
	}
	for _, n := range numbers() {
		l := []int{n}
		same(t, "one number", bits.Make(l), inLimits(l))
		l = []int{7, n, 70, n, 7}
		same(t, "some numbers", bits.Make(l), inLimits(l))
	}
	same(t, "all numbers", bits.Make(numbers()), inLimits(numbers()))
}

// P3.1: List, Len and Least have the elements, of sets that are valid or not.
func TestElements(t *testing.T) {
	for _, s := range sets() {
		want := model(s)
		if l := bits.List(s); !slices.Equal(l, want) {
			t.Errorf("%x: List: got %v, want %v", s, l, want)
		}
		if n := bits.Len(s); n != len(want) {
			t.Errorf("%x: Len: got %d, want %d", s, n, len(want))
		}
		least := 0
		if len(want) > 0 {
			least = want[0]
		}
		if n, ok := bits.Least(s); n != least || ok != (len(want) > 0) {
			t.Errorf("%x: Least: got %d %v", s, n, ok)
		}
	}
}

// P3.1: the least element at each place; 0 as an element is not 0 for want of one.
func TestLeast(t *testing.T) {
	for n := range limit {
		s := bits.Make([]int{4095, n})
		if least, ok := bits.Least(s); least != n || !ok {
			t.Errorf("%d: got %d %v", n, least, ok)
		}
	}
	for _, s := range []bits.Set{nil, {}, {0}, longSet(64, 0), longSet(65, 0), lastWord(65, 1), append(longSet(64, 0), ones, ones)} {
		if n, ok := bits.Least(s); n != 0 || ok {
			t.Errorf("%x: got %d %v", s, n, ok)
		}
	}
}

// P3.1: Has of each number, with sets that are valid or not.
func TestHas(t *testing.T) {
	for _, s := range sets() {
		is := map[int]bool{}
		for _, n := range model(s) {
			is[n] = true
		}
		for n := -200; n < limit+200; n++ {
			if bits.Has(s, n) != is[n] {
				t.Fatalf("%x: %d: not %v", s, n, is[n])
			}
		}
		for _, n := range numbers() {
			if bits.Has(s, n) != is[n] {
				t.Fatalf("%x: %d: not %v", s, n, is[n])
			}
		}
	}
}

// P3.1: With and Without, of numbers within the limits and outside of them.
func TestWithAndWithout(t *testing.T) {
	for _, s := range sets() {
		l := model(s)
		for _, n := range numbers() {
			if n < 0 || n >= limit {
				same(t, "With outside", bits.With(s, n), l)
				same(t, "Without outside", bits.Without(s, n), l)
				continue
			}
			with, without := slices.Clone(l), slices.Clone(l)
			if i, ok := slices.BinarySearch(l, n); ok {
				without = slices.Delete(without, i, i+1)
			} else {
				with = slices.Insert(with, i, n)
			}
			same(t, "With", bits.With(s, n), with)
			same(t, "Without", bits.Without(s, n), without)
		}
	}
}

// P3.1: a set grows and shrinks by single words.
func TestWithAndWithoutWords(t *testing.T) {
	for _, c := range []struct{ got, want bits.Set }{
		{bits.With(nil, 130), bits.Set{0, 0, 4}},
		{bits.With(bits.Set{1}, 4095), append(bits.Set{1}, lastWord(63, high)...)},
		{bits.With(bits.Set{1, 0, 0}, 1), bits.Set{3}},
		{bits.With(bits.Set{1, 0, 0}, 4096), bits.Set{1}},
		{bits.With(lastWord(65, 1), -1), nil},
		{bits.Without(bits.Set{1, 0, 4}, 130), bits.Set{1}},
		{bits.Without(bits.Set{1, 0, 4}, 0), bits.Set{0, 0, 4}},
		{bits.Without(bits.Set{high}, 63), nil},
		{bits.Without(lastWord(64, high), 4095), nil},
		{bits.Without(bits.Set{1, 0}, 64), bits.Set{1}},
		{bits.Without(bits.Set{high}, -1), bits.Set{high}},
		{bits.Without(longSet(65, 1), 4096), longSet(64, 1)},
	} {
		if !slices.Equal(c.got, c.want) {
			t.Errorf("got %x, want %x", c.got, c.want)
		}
	}
}

// P3.2: List(Make(l)) is l in ascending order, without duplicates and without numbers outside the limits.
func TestListOfMake(t *testing.T) {
	random := rand.New(rand.NewSource(4))
	lists := [][]int{nil, {}, {0}, {-1}, {4095}, {4096}, {0, 0, 0}, {5, 64, 5, -1}, {4096, 4095, 64, 63, 0, -1}, numbers()}
	for range 60 {
		l := make([]int, random.Intn(200))
		span := 1 + random.Intn(2*limit)
		for i := range l {
			l[i] = random.Intn(span) - random.Intn(100)
		}
		lists = append(lists, l, append(slices.Clone(l), l...))
	}
	for _, l := range lists {
		if got, want := bits.List(bits.Make(l)), inLimits(l); !slices.Equal(got, want) {
			t.Errorf("%v: got %v, want %v", l, got, want)
		}
	}
}

// P3.2: Make(List(s)) has the elements of s, and is s if s is valid.
func TestMakeOfList(t *testing.T) {
	for _, s := range sets() {
		again := bits.Make(bits.List(s))
		same(t, "Make(List(s))", again, model(s))
		if valid(s) && !slices.Equal(again, s) {
			t.Errorf("%x becomes %x", s, again)
		}
	}
}
