package value_test

import (
	"slices"
	"strings"
	"testing"

	"farandole/api"
	"farandole/value"
)

// P15.1: the examples of the chapter.
func TestExamples(t *testing.T) {
	if s := value.Show(text(`a"b`)); s != `"a\"b"` {
		t.Error(s)
	}
	if v, e := value.Least(ints(-3, 9)); v != num(-3) || e != api.OK {
		t.Error(v, e)
	}
	if v, e := value.Clamp(ints(-3, 9), num(12)); v != num(9) || e != api.OK {
		t.Error(v, e)
	}
}

// P15.1: which values are valid, and their numbers.
func TestValid(t *testing.T) {
	for _, v := range corners() {
		if got, want := value.Valid(v), isValue(v); got != want {
			t.Errorf("%+v: %v", v, got)
		}
		if got, want := value.Number(v), numberOf(v); got != want {
			t.Errorf("%+v: %d, want %d", v, got, want)
		}
	}
	for n := -2000; n <= 2000; n++ {
		if value.Valid(num(n)) != (-1000 <= n && n <= 1000) || value.Number(num(n)) != n {
			t.Error(n)
		}
		if value.Valid(api.Value{Kind: api.SortText, N: n, S: "a"}) != (n == 0) {
			t.Error("a text with", n)
		}
	}
}

// P15.1: each byte of a valid text is from 32 to 126, at any place, and there are at most 40.
func TestValidTexts(t *testing.T) {
	for c := range 256 {
		for _, size := range []int{1, 2, 3, 39, 40, 41} {
			for i := range size {
				s := strings.Repeat("a", i) + string([]byte{byte(c)}) + strings.Repeat("b", size-i-1)
				if value.Valid(text(s)) != (32 <= c && c <= 126 && size <= 40) || value.Number(text(s)) != size {
					t.Errorf("%q", s)
				}
			}
		}
		if s := string([]byte{byte(c)}); value.Valid(api.Value{Kind: api.SortInt, N: 1, S: s}) {
			t.Errorf("an integer with %q", s)
		}
	}
}

// P15.1: which sorts are valid.
func TestValidSort(t *testing.T) {
	for _, s := range sorts() {
		if got, want := value.ValidSort(s), isSort(s); got != want {
			t.Errorf("%+v: %v", s, got)
		}
	}
	for lo := -5; lo <= 45; lo++ {
		for hi := -5; hi <= 45; hi++ {
			if value.ValidSort(ints(lo, hi)) != (lo <= hi) || value.ValidSort(texts(lo, hi)) != (0 <= lo && lo <= hi && hi <= 40) {
				t.Error(lo, hi)
			}
		}
	}
}

// P15.1: which values fit a sort.
func TestFits(t *testing.T) {
	for _, v := range corners() {
		for _, s := range sorts() {
			if got, want := value.Fits(s, v), fits(s, v); got != want {
				t.Fatalf("%+v %+v: %v", s, v, got)
			}
		}
	}
}

// P15.1, P15.2: the order of values at the limits, valid or not.
func TestCompare(t *testing.T) {
	l := corners()
	var ranks [][]int
	for _, v := range l {
		ranks = append(ranks, rank(v))
	}
	for i, a := range l {
		for k, b := range l {
			if got, want := value.Compare(a, b), slices.Compare(ranks[i], ranks[k]); got != want {
				t.Fatalf("%+v %+v: %d, want %d", a, b, got, want)
			}
		}
	}
}

// P15.1, P15.2: texts are compared by their lengths, and then by their bytes, the first different one of which counts.
func TestCompareTexts(t *testing.T) {
	var l []string
	for n := range 4 {
		eachString([]string{"\x00", "a", "b", "\x7f", "\x80", "\xff"}, n, func(s string) { l = append(l, s) })
	}
	for i, a := range l {
		for k, b := range l {
			// The strings are made in the order of their lengths and bytes.
			want := slices.Compare([]int{i}, []int{k})
			if got := value.Compare(text(a), text(b)); got != want {
				t.Fatalf("%q %q: %d, want %d", a, b, got, want)
			}
		}
	}
}

// P15.2: Compare is a total order of any values, in which only equal values are equal.
func TestTotalOrder(t *testing.T) {
	m := newMaker(2)
	all := corners()
	for range 30000 {
		a, b, c := all[m.Intn(len(all))], m.value(), m.value()
		if m.some(2) {
			b = api.Value{Kind: a.Kind, N: a.N, S: m.changed(a.S)}
		}
		if m.some(3) {
			c = api.Value{Kind: b.Kind, N: b.N, S: m.changed(b.S)}
		}
		ab, bc, ac := value.Compare(a, b), value.Compare(b, c), value.Compare(a, c)
		if (ab == 0) != (a == b) || (bc == 0) != (b == c) || (ac == 0) != (a == c) {
			t.Fatalf("%+v %+v %+v: %d %d %d, but only equal values are equal", a, b, c, ab, bc, ac)
		}
		if value.Compare(b, a) != -ab || value.Compare(c, b) != -bc || value.Compare(c, a) != -ac {
			t.Fatalf("%+v %+v %+v: not the same both ways", a, b, c)
		}
		if ab == bc && ac != ab || ab <= 0 && bc <= 0 && ac > 0 || ab >= 0 && bc >= 0 && ac < 0 {
			t.Fatalf("%+v %+v %+v: %d %d, but %d", a, b, c, ab, bc, ac)
		}
		if value.Compare(a, a) != 0 || max(ab, -ab, bc, -bc, ac, -ac) > 1 {
			t.Fatalf("%+v %+v %+v: %d %d %d", a, b, c, ab, bc, ac)
		}
	}
}
