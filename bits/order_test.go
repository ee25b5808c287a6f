package bits_test

import (
	"cmp"
	"slices"
	"testing"

	"farandole/bits"
)

// P3.1, P3.6: Compare is the order of the ascending lists of elements, and 0 exactly if sets are equal.
func TestCompare(t *testing.T) {
	eachPair(func(a, b bits.Set) {
		want := slices.Compare(model(a), model(b))
		if n := bits.Compare(a, b); n != want {
			t.Errorf("%x, %x: got %d, want %d", a, b, n, want)
		}
		if bits.Equal(a, b) != (want == 0) {
			t.Errorf("%x, %x: Equal is not %v", a, b, want == 0)
		}
	})
}

// P3.6: some sets in their order, with lists that are proper prefixes of others.
func TestCompareInOrder(t *testing.T) {
	lists := [][]int{
		{}, {0}, {0, 1}, {0, 1, 2}, {0, 1, 2, 4095}, {0, 1, 3}, {0, 1, 700}, {0, 1, 4095}, {0, 2}, {0, 63}, {0, 63, 64}, {0, 64}, {0, 4095},
		{1}, {1, 2}, {1, 4095}, {2}, {62, 63}, {63}, {63, 64}, {63, 64, 65}, {63, 65}, {64}, {64, 4095}, {65, 66}, {127}, {128}, {4094}, {4094, 4095}, {4095},
	}
	for i, a := range lists {
		for k, b := range lists {
			if n := bits.Compare(bits.Make(a), bits.Make(b)); n != cmp.Compare(i, k) {
				t.Errorf("%v, %v: got %d", a, b, n)
			}
			if bits.Equal(bits.Make(a), bits.Make(b)) != (i == k) {
				t.Errorf("%v, %v: Equal", a, b)
			}
		}
	}
}

// P3.6: words without elements do not matter.
func TestCompareWordsWithoutElements(t *testing.T) {
	for _, c := range [][2]bits.Set{
		{nil, {}}, {nil, {0}}, {{0, 0}, {0}}, {nil, longSet(64, 0)}, {nil, longSet(65, 0)}, {nil, lastWord(65, 1)},
		{lastWord(65, 1), lastWord(65, 2)}, {lastWord(65, 1), lastWord(66, 1)},
		{{1}, {1, 0}}, {{1, 0, 0}, {1, 0}}, {{1}, append(bits.Set{1}, lastWord(64, 1)...)},
		{longSet(64, ones), longSet(65, ones)}, {longSet(65, 1), longSet(66, 1)},
		{append(longSet(64, 1), 1), append(longSet(64, 1), 2)}, {longSet(64, 1), append(longSet(64, 1), 0)},
	} {
		for _, pair := range [][2]bits.Set{c, {c[1], c[0]}} {
			if bits.Compare(pair[0], pair[1]) != 0 || !bits.Equal(pair[0], pair[1]) {
				t.Errorf("%x, %x", pair[0], pair[1])
			}
		}
	}
}

// P3.6: one element more or less decides, at each place.
func TestCompareByOne(t *testing.T) {
	for n := range limit {
		a, b := bits.Make([]int{0, 2000, 4095, n}), bits.Make([]int{0, 2000, n})
		less := bits.Without(a, n)
		want := -1
		if n == 4095 {
			want = 1
		}
		if bits.Compare(a, less) != want || bits.Compare(less, a) != -want || bits.Equal(a, less) || bits.Equal(less, a) {
			t.Errorf("%d", n)
		}
		if bits.Equal(a, b) != (n == 4095) || bits.Compare(b, a) > 0 {
			t.Errorf("%d as an end", n)
		}
	}
}

// P3.6: Compare is antisymmetric and transitive, and any two sets can be compared.
func TestTotalOrder(t *testing.T) {
	eachPair(func(a, b bits.Set) {
		n := bits.Compare(a, b)
		if n < -1 || n > 1 || bits.Compare(b, a) != -n {
			t.Errorf("%x, %x: %d", a, b, n)
		}
	})
	eachTriple(func(a, b, c bits.Set) {
		if bits.Compare(a, b) <= 0 && bits.Compare(b, c) <= 0 && bits.Compare(a, c) > 0 {
			t.Errorf("%x, %x, %x", a, b, c)
		}
	})
	for _, a := range sets() {
		if bits.Compare(a, a) != 0 || !bits.Equal(a, a) {
			t.Errorf("%x is not itself", a)
		}
	}
}
