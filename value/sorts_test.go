package value_test

import (
	"strings"
	"testing"

	"farandole/api"
	"farandole/value"
)

// allTexts calls a function for all valid sorts of texts.
func allTexts(do func(s api.Sort)) {
	for lo := range 41 {
		for hi := lo; hi <= 40; hi++ {
			do(texts(lo, hi))
		}
	}
}

// P15.1: the least values of all kinds of sorts; ErrArg if a sort is not valid.
func TestLeast(t *testing.T) {
	for _, s := range sorts() {
		v, e := value.Least(s)
		want, wantError := least(s)
		if v != want || e != wantError {
			t.Errorf("%+v: %+v %s, want %+v %s", s, v, e.Name(), want, wantError.Name())
		}
	}
	allTexts(func(s api.Sort) {
		if v, e := value.Least(s); v != text(strings.Repeat("a", s.Lo)) || e != api.OK {
			t.Errorf("%+v: %+v %s", s, v, e.Name())
		}
	})
}

// P15.3: the least value fits its sort; no integer that fits is ahead of it, no text that fits has a smaller number, and no text of letters is ahead of it.
func TestLeastIsLeast(t *testing.T) {
	m := newMaker(3)
	for range 300 {
		s := m.sort()
		if s.Kind == api.SortText {
			continue
		}
		v, e := value.Least(s)
		if e != api.OK || !value.Fits(s, v) {
			t.Fatalf("%+v: %+v %s", s, v, e.Name())
		}
		for n := -1000; n <= 1000; n++ {
			if value.Fits(s, num(n)) && value.Compare(num(n), v) < 0 {
				t.Fatalf("%+v: %+v, but %d fits", s, v, n)
			}
		}
	}
	allTexts(func(s api.Sort) {
		v, e := value.Least(s)
		if e != api.OK || !value.Fits(s, v) {
			t.Fatalf("%+v: %+v %s", s, v, e.Name())
		}
		for range 50 {
			other := text(m.printable(m.Intn(41)))
			if value.Fits(s, other) && value.Number(other) < value.Number(v) {
				t.Fatalf("%+v: %+v, but %+v fits", s, v, other)
			}
			letters := text(strings.Map(func(c rune) rune { return 'a' + c%26 }, other.S))
			if value.Fits(s, letters) && value.Compare(letters, v) < 0 {
				t.Fatalf("%+v: %+v, but %+v fits", s, v, letters)
			}
		}
	})
}

// P15.1: clamping at the limits; ErrArg if the sort or the value is not valid, ahead of ErrType if the kinds differ.
func TestClamp(t *testing.T) {
	for _, v := range corners() {
		for _, s := range sorts() {
			got, e := value.Clamp(s, v)
			want, wantError := clamp(s, v)
			if got != want || e != wantError {
				t.Fatalf("%+v %+v: %+v %s, want %+v %s", s, v, got, e.Name(), want, wantError.Name())
			}
		}
	}
	for s, want := range map[string]string{"": "aa", "x": "xa", "xy": "xy", "xyz": "xyz", "wxyz": "wxy", `"\" `: `"\"`} {
		if v, e := value.Clamp(texts(2, 3), text(s)); v != text(want) || e != api.OK {
			t.Errorf("%q: %+v %s", s, v, e.Name())
		}
	}
}

// P15.4: an integer becomes the nearest one that fits, and the order of integers is kept.
func TestClampIntegers(t *testing.T) {
	m := newMaker(4)
	l := []api.Sort{ints(-1000, 1000), ints(-1000, -1000), ints(1000, 1000), ints(0, 0), ints(-1, 1)}
	for range 200 {
		if s := m.sort(); s.Kind == api.SortInt {
			l = append(l, s)
		}
	}
	for _, s := range l {
		before := num(-1000)
		for n := -1000; n <= 1000; n++ {
			v, e := value.Clamp(s, num(n))
			if e != api.OK || !value.Fits(s, v) || value.Fits(s, num(n)) && v != num(n) {
				t.Fatalf("%+v %d: %+v %s", s, n, v, e.Name())
			}
			if again, _ := value.Clamp(s, v); again != v {
				t.Fatalf("%+v %d: %+v, then %+v", s, n, v, again)
			}
			if n > -1000 && value.Compare(before, v) > 0 {
				t.Fatalf("%+v %d: %+v, but %+v ahead of it", s, n, v, before)
			}
			// One step nearer to the integer nothing fits.
			if v.N < n && value.Fits(s, num(v.N+1)) || v.N > n && value.Fits(s, num(v.N-1)) {
				t.Fatalf("%+v %d: %+v is not the nearest one", s, n, v)
			}
			before = v
		}
	}
}

// P15.4: a clamped text fits, is the same if it did before, and is not changed when it is clamped again.
func TestClampTexts(t *testing.T) {
	m := newMaker(5)
	allTexts(func(s api.Sort) {
		for n := range 41 {
			v := text(m.printable(n))
			got, e := value.Clamp(s, v)
			want, _ := clamp(s, v)
			if got != want || e != api.OK || !value.Fits(s, got) || value.Fits(s, v) && got != v {
				t.Fatalf("%+v %+v: %+v %s", s, v, got, e.Name())
			}
			if again, e := value.Clamp(s, got); again != got || e != api.OK {
				t.Fatalf("%+v %+v: %+v, then %+v", s, v, got, again)
			}
			if n := min(len(v.S), len(got.S)); got.S[:n] != v.S[:n] || strings.Trim(got.S[n:], "a") != "" {
				t.Fatalf("%+v %+v: %+v", s, v, got)
			}
		}
	})
}
