package bits_test

import (
	"encoding/binary"
	"math"
	"slices"
	"testing"

	"farandole/bits"
)

// results are calls of all functions that return a set, by name.
func results(a, b bits.Set, n int) map[string]bits.Set {
	return map[string]bits.Set{
		"With":    bits.With(a, n),
		"Without": bits.Without(a, n),
		"Union":   bits.Union(a, b),
		"Inter":   bits.Inter(a, b),
		"Minus":   bits.Minus(a, b),
		"Make":    bits.Make(bits.List(a)),
	}
}

// ask calls all functions that return no set.
func ask(a, b bits.Set, n int) []int {
	l := bits.List(a)
	for _, yes := range []bool{bits.Valid(a), bits.Has(a, n), bits.Sub(a, b), bits.Equal(a, b)} {
		if yes {
			l = append(l, 1)
		} else {
			l = append(l, 0)
		}
	}
	least, _ := bits.Least(a)
	return append(l, least, bits.Len(a), bits.Compare(a, b))
}

// roomy returns a copy of a set, with room behind it that is not 0.
func roomy(s bits.Set) bits.Set {
	return append(slices.Clone(s), longSet(5, 0xabcdef)...)[:len(s)]
}

// overwrite changes all words of a set, and those of its capacity.
func overwrite(s bits.Set) {
	s = s[:cap(s)]
	for i := range s {
		s[i] ^= ones
	}
}

// stays tests that a roomy copy of s is as it was, with the room behind it.
func stays(t *testing.T, x, s bits.Set) {
	t.Helper()
	if room := x[len(x) : len(x)+5]; !slices.Equal(x, s) || !slices.Equal(room, longSet(5, 0xabcdef)) {
		t.Fatalf("%x is changed to %x, %x", s, x, room)
	}
}

// P2, P3.1: arguments are not modified, also not in their capacity, and share no memory with results.
func TestSetsShareNothing(t *testing.T) {
	for _, n := range []int{-1, 0, 63, 64, 4095, 4096} {
		eachFewPair(func(a, b bits.Set) {
			x, y := roomy(a), roomy(b)
			ask(x, y, n)
			got, again, want := results(x, y, n), results(x, y, n), results(a, b, n)
			for _, s := range got {
				overwrite(s)
			}
			stays(t, x, a)
			stays(t, y, b)
			overwrite(x)
			overwrite(y)
			for name, s := range again {
				if !slices.Equal(s, want[name]) {
					t.Fatalf("%s of %x and %x with %d shares memory", name, a, b, n)
				}
			}
		})
	}
}

// P2: lists are not modified, and a returned list is new memory.
func TestListsShareNothing(t *testing.T) {
	for _, s := range sets() {
		x := slices.Clone(s)
		l, again := bits.List(x), bits.List(x)
		l = l[:cap(l)]
		for i := range l {
			l[i] = -7
		}
		if !slices.Equal(again, model(s)) || !slices.Equal(x, s) {
			t.Errorf("%x: List shares memory", s)
		}
	}
	l := numbers()
	made := bits.Make(l)
	if !slices.Equal(l, numbers()) {
		t.Error("Make modifies a list")
	}
	clear(l)
	same(t, "Make", made, inLimits(numbers()))
}

// P2: two arguments may be the same memory, or overlap.
func TestOverlappingArguments(t *testing.T) {
	memory := bits.Set{1, 3, 6, 12, 0, high, ones, 0, 5}
	before := slices.Clone(memory)
	for i := range len(memory) + 1 {
		for k := i; k <= len(memory); k++ {
			for shift := range len(memory) + 1 - (k - i) {
				a, b := memory[i:k], memory[shift:shift+k-i]
				apart := results(slices.Clone(a), slices.Clone(b), 64)
				for name, s := range results(a, b, 64) {
					if !slices.Equal(s, apart[name]) {
						t.Errorf("%s of %x and %x: %x", name, a, b, s)
					}
				}
				if !slices.Equal(memory, before) {
					t.Fatalf("%x and %x are modified", a, b)
				}
			}
		}
	}
}

// P1: all functions return for extreme numbers and for long sets and lists.
func TestExtremes(t *testing.T) {
	for _, s := range []bits.Set{nil, {0}, {high}, longSet(64, ones), longSet(65, ones), longSet(100000, ones), lastWord(100000, ones)} {
		for _, n := range []int{math.MinInt, math.MinInt + 1, -4096, -64, -1, 4096, math.MaxInt - 1, math.MaxInt} {
			if bits.Has(s, n) || !slices.Equal(bits.With(s, n), bits.Without(s, n)) || !bits.Equal(bits.With(s, n), s) {
				t.Errorf("%d words: %d is an element", len(s), n)
			}
		}
	}
	l := make([]int, 0, 300000)
	for n := range 100000 {
		l = append(l, n, -n, math.MaxInt-n)
	}
	if s := bits.Make(l); !slices.Equal(s, longSet(64, ones)) {
		t.Errorf("a long list: %x", s)
	}
}

// P3: the same calls lead to the same results, whatever was called in between.
func TestSameAgain(t *testing.T) {
	eachFewPair(func(a, b bits.Set) {
		first, asked := results(a, b, 64), ask(a, b, 64)
		results(b, a, 5)
		ask(b, a, 5)
		for name, s := range results(a, b, 64) {
			if !slices.Equal(s, first[name]) {
				t.Errorf("%s of %x and %x: %x, then %x", name, a, b, first[name], s)
			}
		}
		if !slices.Equal(ask(a, b, 64), asked) {
			t.Errorf("%x and %x: other answers", a, b)
		}
	})
}

// words returns the set with the words in a byte string.
func words(data []byte) bits.Set {
	var s bits.Set
	for len(data) >= 8 {
		s = append(s, binary.LittleEndian.Uint64(data))
		data = data[8:]
	}
	return s
}

func FuzzSets(f *testing.F) {
	f.Add([]byte{}, []byte{}, 0)
	f.Add(make([]byte, 16), []byte("12345678"), 64)
	f.Add(make([]byte, 65*8), []byte("1234567812345678"), 4095)
	f.Fuzz(func(t *testing.T, x, y []byte, n int) {
		a, b := words(x), words(y)
		same(t, "Union", bits.Union(a, b), chosen(a, b, func(x, y bool) bool { return x || y }))
		same(t, "Inter", bits.Inter(a, b), chosen(a, b, func(x, y bool) bool { return x && y }))
		same(t, "Minus", bits.Minus(a, b), chosen(a, b, func(x, y bool) bool { return x && !y }))
		same(t, "With", bits.With(a, n), inLimits(append(model(a), n)))
		same(t, "Without", bits.Without(a, n), slices.DeleteFunc(model(a), func(m int) bool { return m == n }))
		if bits.Has(a, n) != slices.Contains(model(a), n) || !slices.Equal(bits.List(a), model(a)) || bits.Len(a) != len(model(a)) {
			t.Errorf("%x: other elements than %v", a, model(a))
		}
		if bits.Compare(a, b) != slices.Compare(model(a), model(b)) || bits.Equal(a, b) != slices.Equal(model(a), model(b)) {
			t.Errorf("%x, %x: Compare or Equal", a, b)
		}
	})
}
