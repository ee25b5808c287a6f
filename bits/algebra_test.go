package bits_test

import (
	"slices"
	"testing"

	"farandole/bits"
)

// chosen returns the numbers for which f holds, with whether they are in a and in b.
func chosen(a, b bits.Set, f func(inA, inB bool) bool) []int {
	var of [limit]struct{ inA, inB bool }
	for _, n := range model(a) {
		of[n].inA = true
	}
	for _, n := range model(b) {
		of[n].inB = true
	}
	var l []int
	for n, in := range of {
		if f(in.inA, in.inB) {
			l = append(l, n)
		}
	}
	return l
}

// P3.1: the union, the intersection and the difference have these elements, and are valid.
func TestOperations(t *testing.T) {
	eachPair(func(a, b bits.Set) {
		same(t, "Union", bits.Union(a, b), chosen(a, b, func(x, y bool) bool { return x || y }))
		same(t, "Inter", bits.Inter(a, b), chosen(a, b, func(x, y bool) bool { return x && y }))
		same(t, "Minus", bits.Minus(a, b), chosen(a, b, func(x, y bool) bool { return x && !y }))
	})
}

// P3.1: the words of results, where words at the end vanish or are left out.
func TestOperationWords(t *testing.T) {
	for i, c := range []struct{ got, want bits.Set }{
		{bits.Union(bits.Set{1}, bits.Set{2, 4}), bits.Set{3, 4}},
		{bits.Union(bits.Set{2, 4}, bits.Set{1}), bits.Set{3, 4}},
		{bits.Union(bits.Set{1, 0}, bits.Set{0, 0, 0}), bits.Set{1}},
		{bits.Union(nil, nil), nil},
		{bits.Union(lastWord(65, 1), bits.Set{8}), bits.Set{8}},
		{bits.Union(longSet(70, 1), longSet(80, 2)), longSet(64, 3)},
		{bits.Inter(bits.Set{3, 4}, bits.Set{2, 3}), bits.Set{2}},
		{bits.Inter(bits.Set{7}, bits.Set{5, 9}), bits.Set{5}},
		{bits.Inter(longSet(65, ones), longSet(66, 6)), longSet(64, 6)},
		{bits.Inter(lastWord(65, 1), lastWord(65, 1)), nil},
		{bits.Minus(bits.Set{7, 1}, bits.Set{2, 1}), bits.Set{5}},
		{bits.Minus(bits.Set{7, 1}, bits.Set{2}), bits.Set{5, 1}},
		{bits.Minus(bits.Set{7}, bits.Set{2, 9}), bits.Set{5}},
		{bits.Minus(longSet(65, 3), longSet(64, 1)), longSet(64, 2)},
		{bits.Minus(lastWord(65, 1), nil), nil},
	} {
		if !slices.Equal(c.got, c.want) {
			t.Errorf("%d: got %x, want %x", i, c.got, c.want)
		}
	}
}

// equal tests that two sets have the same elements, and as returned sets the same words.
func equal(t *testing.T, what string, a, b bits.Set) {
	t.Helper()
	if !slices.Equal(a, b) || !bits.Equal(a, b) {
		t.Fatalf("%s: %x, %x", what, a, b)
	}
}

// P3.3: union and intersection are commutative and idempotent.
func TestPairLaws(t *testing.T) {
	eachPair(func(a, b bits.Set) {
		equal(t, "union commutative", bits.Union(a, b), bits.Union(b, a))
		equal(t, "intersection commutative", bits.Inter(a, b), bits.Inter(b, a))
	})
	for _, a := range sets() {
		same(t, "union idempotent", bits.Union(a, a), model(a))
		same(t, "intersection idempotent", bits.Inter(a, a), model(a))
	}
}

// P3.3: union and intersection are associative and distributive.
func TestTripleLaws(t *testing.T) {
	eachTriple(func(a, b, c bits.Set) {
		equal(t, "union associative", bits.Union(bits.Union(a, b), c), bits.Union(a, bits.Union(b, c)))
		equal(t, "intersection associative", bits.Inter(bits.Inter(a, b), c), bits.Inter(a, bits.Inter(b, c)))
		equal(t, "intersection distributive", bits.Inter(a, bits.Union(b, c)), bits.Union(bits.Inter(a, b), bits.Inter(a, c)))
		equal(t, "union distributive", bits.Union(a, bits.Inter(b, c)), bits.Inter(bits.Union(a, b), bits.Union(a, c)))
	})
}

// P3.3: a is the disjoint union of its intersection with b and its difference from b.
func TestParts(t *testing.T) {
	eachPair(func(a, b bits.Set) {
		in, out := bits.Inter(a, b), bits.Minus(a, b)
		same(t, "union of the parts", bits.Union(in, out), model(a))
		same(t, "intersection of the parts", bits.Inter(in, out), nil)
	})
}

// P3.1, P3.4: Sub holds as it is defined, and exactly if each of the three conditions holds.
func TestSub(t *testing.T) {
	eachPair(func(a, b bits.Set) {
		sub := bits.Sub(a, b)
		if want := len(chosen(a, b, func(x, y bool) bool { return x && !y })) == 0; sub != want {
			t.Fatalf("%x, %x: not %v", a, b, want)
		}
		if (bits.Len(bits.Minus(a, b)) == 0) != sub {
			t.Errorf("%x, %x: the difference", a, b)
		}
		if bits.Equal(bits.Union(a, b), b) != sub {
			t.Errorf("%x, %x: the union", a, b)
		}
		if bits.Equal(bits.Inter(a, b), a) != sub {
			t.Errorf("%x, %x: the intersection", a, b)
		}
		if !bits.Sub(bits.Inter(a, b), a) || !bits.Sub(a, bits.Union(a, b)) || !bits.Sub(bits.Minus(a, b), a) {
			t.Errorf("%x, %x: the results", a, b)
		}
	})
}

// P3.4: one element more or less decides, at each place.
func TestSubByOne(t *testing.T) {
	for n := range limit {
		a, b := bits.Make([]int{0, 2000, 4095, n}), bits.Make([]int{n})
		less := bits.Without(a, n)
		if !bits.Sub(b, a) || !bits.Sub(a, a) || !bits.Sub(less, a) || bits.Sub(a, less) || bits.Sub(b, less) {
			t.Errorf("%d", n)
		}
	}
}

// P3.4: words that have no elements do not matter.
func TestSubOfLongSets(t *testing.T) {
	for _, none := range []bits.Set{nil, {0, 0}, longSet(64, 0), lastWord(65, 1), lastWord(200, ones)} {
		if !bits.Sub(none, nil) || !bits.Sub(none, bits.Set{1}) || bits.Sub(bits.Set{1}, none) || !bits.Sub(none, lastWord(66, 1)) {
			t.Errorf("%x", none)
		}
	}
	if !bits.Sub(bits.Set{1, 0, 0}, bits.Set{3}) || bits.Sub(bits.Set{3}, bits.Set{1, 0, 0}) || !bits.Sub(longSet(65, 1), longSet(64, 1)) {
		t.Error("sets that are not valid")
	}
}

// P3.5: the lengths of the union and of the intersection add up to those of both sets.
func TestLengths(t *testing.T) {
	eachPair(func(a, b bits.Set) {
		if bits.Len(bits.Union(a, b))+bits.Len(bits.Inter(a, b)) != bits.Len(a)+bits.Len(b) {
			t.Errorf("%x, %x", a, b)
		}
	})
	all := bits.Make(numbers())
	for n := range limit {
		all = bits.With(all, n)
	}
	for n := range limit {
		if bits.Len(bits.Make([]int{n})) != 1 || bits.Len(bits.Without(all, n)) != limit-1 {
			t.Errorf("the length with and without %d", n)
		}
	}
	if bits.Len(all) != limit || bits.Len(longSet(65, ones)) != limit || bits.Len(lastWord(65, ones)) != 0 || bits.Len(nil) != 0 {
		t.Error("the lengths of all and of none")
	}
}
