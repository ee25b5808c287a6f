package wire_test

import (
	"bytes"
	"math"
	"reflect"
	"slices"
	"strings"
	"testing"

	"farandole/api"
	"farandole/wire"
)

// readers are calls of all read methods, with limits that permit a lot, by name.
func readers() map[string]func(r *wire.Reader) any {
	return map[string]func(r *wire.Reader) any{
		"Int":     func(r *wire.Reader) any { return r.Int() },
		"Bounded": func(r *wire.Reader) any { return r.Bounded(-1000, 1000) },
		"Bool":    func(r *wire.Reader) any { return r.Bool() },
		"Text":    func(r *wire.Reader) any { return r.Text(1000) },
		"Bytes":   func(r *wire.Reader) any { return r.Bytes(1000) },
		"Ints":    func(r *wire.Reader) any { return r.Ints(1000) },
		"Value":   func(r *wire.Reader) any { return r.Value() },
		"Values":  func(r *wire.Reader) any { return r.Values(1000) },
		"Event":   func(r *wire.Reader) any { return r.Event() },
	}
}

// isZero tells whether a result of a read method is its zero value; empty lists are equal to nil.
func isZero(x any) bool {
	v := reflect.ValueOf(x)
	return v.IsZero() || v.Kind() == reflect.Slice && v.Len() == 0
}

// fails tests that f fails at the beginning of b, and that the reader is stopped then.
func fails(t *testing.T, what string, b []byte, f func(r *wire.Reader) any) {
	t.Helper()
	r := wire.New(b)
	if x := f(r); !isZero(x) {
		t.Errorf("%s: % x: got %v", what, b, x)
	}
	stopped(t, what, r, len(b))
}

// stopped tests that every method of a reader that has failed acts as P1.5 says.
func stopped(t *testing.T, what string, r *wire.Reader, left int) {
	t.Helper()
	for name, f := range readers() {
		if n := r.Left(); n != left {
			t.Errorf("%s: %d bytes left, not %d", what, n, left)
		}
		if x := f(r); !isZero(x) {
			t.Errorf("%s: %s returns %v after the failure", what, name, x)
		}
		if e := r.End(); e != api.ErrForm {
			t.Errorf("%s: End returns %v after the failure", what, e)
		}
	}
	if n := r.Left(); n != left {
		t.Errorf("%s: %d bytes left in the end, not %d", what, n, left)
	}
}

// reads tests that f reads want from b and leaves the last bytes.
func reads(t *testing.T, what string, b []byte, left int, f func(r *wire.Reader) any, want any) {
	t.Helper()
	r := wire.New(b)
	if x := f(r); !(isZero(x) && isZero(want)) && !reflect.DeepEqual(x, want) {
		t.Errorf("%s: got %v, want %v", what, x, want)
	}
	if n := r.Left(); n != left {
		t.Errorf("%s: %d bytes left, not %d", what, n, left)
	}
	e := api.OK
	if left > 0 {
		e = api.ErrForm
	}
	if r.End() != e {
		t.Errorf("%s: End returns %v, not %v", what, r.End(), e)
	}
}

// P1.1, P1.3: integers with other encodings than the one, and with more than 64 bits.
func TestInvalidInts(t *testing.T) {
	for _, b := range []string{
		"", "\x80", "\xff\xff", "\x80\x00", "\x81\x00", "\xff\x00", "\x80\x80\x00", "\xff\xff\x00\x01",
		"\xff\xff\xff\xff\xff\xff\xff\xff\xff",
		"\xff\xff\xff\xff\xff\xff\xff\xff\xff\x00",
		"\xff\xff\xff\xff\xff\xff\xff\xff\xff\x02",
		"\x80\x80\x80\x80\x80\x80\x80\x80\x80\x7f",
		"\x80\x80\x80\x80\x80\x80\x80\x80\x80\x80",
		"\x80\x80\x80\x80\x80\x80\x80\x80\x80\x80\x01",
		"\xff\xff\xff\xff\xff\xff\xff\xff\xff\x81\x00",
	} {
		fails(t, "Int", []byte(b), readers()["Int"])
		fails(t, "Bounded", []byte(b), func(r *wire.Reader) any { return r.Bounded(math.MinInt, math.MaxInt) })
		fails(t, "the length of a text", []byte(b), readers()["Text"])
	}
}

// P1.1: the limits of Bounded.
func TestBounded(t *testing.T) {
	for _, c := range []struct {
		n, lo, hi int
		ok        bool
	}{
		{5, 5, 9, true}, {9, 5, 9, true}, {4, 5, 9, false}, {10, 5, 9, false},
		{-5, -5, -5, true}, {-6, -5, -5, false}, {-4, -5, -5, false},
		{7, 9, 5, false}, {0, 1, -1, false}, {0, 0, 0, true},
		{math.MinInt, math.MinInt, math.MaxInt, true}, {math.MaxInt, math.MinInt, math.MaxInt, true},
		{math.MaxInt, math.MinInt, math.MaxInt - 1, false}, {math.MinInt, math.MinInt + 1, math.MaxInt, false},
		{math.MinInt, math.MinInt, math.MinInt, true}, {math.MaxInt, math.MaxInt, math.MaxInt, true},
		{0, math.MaxInt, math.MinInt, false},
	} {
		b := append(wire.Int(nil, c.n), 0)
		f := func(r *wire.Reader) any { return r.Bounded(c.lo, c.hi) }
		if c.ok {
			reads(t, "Bounded", b, 1, f, c.n)
		} else {
			fails(t, "Bounded", b, f)
		}
	}
}

// P1.1: booleans.
func TestBool(t *testing.T) {
	reads(t, "false", []byte{0, 1}, 1, readers()["Bool"], false)
	reads(t, "true", []byte{1, 0}, 1, readers()["Bool"], true)
	fails(t, "nothing", nil, readers()["Bool"])
	for c := 2; c < 256; c++ {
		fails(t, "Bool", []byte{byte(c), 1}, readers()["Bool"])
	}
}

// P1.1: the limits of Text, Bytes, Ints and Values.
func TestLengths(t *testing.T) {
	type limited struct {
		b    []byte
		want any
		f    func(max int) func(r *wire.Reader) any
	}
	for name, c := range map[string]limited{
		"Text":   {wire.Text(nil, "abc"), "abc", func(max int) func(r *wire.Reader) any { return func(r *wire.Reader) any { return r.Text(max) } }},
		"Bytes":  {wire.Bytes(nil, []byte{1, 2, 3}), []byte{1, 2, 3}, func(max int) func(r *wire.Reader) any { return func(r *wire.Reader) any { return r.Bytes(max) } }},
		"Ints":   {wire.Ints(nil, []int{4, -5, 600}), []int{4, -5, 600}, func(max int) func(r *wire.Reader) any { return func(r *wire.Reader) any { return r.Ints(max) } }},
		"Values": {wire.Values(nil, []api.Value{three, textA, three}), []api.Value{three, textA, three}, func(max int) func(r *wire.Reader) any { return func(r *wire.Reader) any { return r.Values(max) } }},
	} {
		for _, max := range []int{3, 4, 1000, math.MaxInt} {
			reads(t, name, append(bytes.Clone(c.b), 0), 1, c.f(max), c.want)
			reads(t, name+", empty", []byte{0, 5}, 1, c.f(max), nilOf(c.want))
		}
		reads(t, name+", empty", []byte{0, 5}, 1, c.f(0), nilOf(c.want))
		for _, max := range []int{2, 1, 0, -1, math.MinInt} {
			fails(t, name, c.b, c.f(max))
		}
		for _, max := range []int{-1, -2, math.MinInt} {
			fails(t, name+", empty", []byte{0}, c.f(max))
		}
		for _, length := range []int{-1, -3, math.MinInt, math.MaxInt, math.MaxInt / 2, 1 << 40, 5} {
			fails(t, name, append(wire.Int(nil, length), c.b[1:]...), c.f(math.MaxInt))
		}
	}
}

func nilOf(x any) any { return reflect.Zero(reflect.TypeOf(x)).Interface() }

// P1.1: a value is proper, and its text is not too long.
func TestValueLimits(t *testing.T) {
	f := readers()["Value"]
	for n := range 2 {
		v := api.Value{Kind: api.SortText, S: strings.Repeat("e", api.MaxText-n)}
		reads(t, "Value", append(wire.Value(nil, v), 1), 1, f, v)
	}
	for _, n := range []int{math.MinInt, -1, 0, api.MaxInt + 1, math.MaxInt} {
		v := api.Value{Kind: api.SortInt, N: n}
		reads(t, "Value", append(wire.Value(nil, v), 1), 1, f, v)
	}
	fails(t, "a long text", wire.Value(nil, api.Value{Kind: api.SortText, S: strings.Repeat("e", api.MaxText+1)}), f)
	for _, kind := range []int{0, 3, -1, 4, 64, math.MaxInt, math.MinInt} {
		fails(t, "a kind alone", wire.Value(nil, api.Value{Kind: kind, N: 3, S: "a"}), f)
		fails(t, "a kind with an integer", wire.Int(wire.Int(nil, kind), 3), f)
		fails(t, "a kind in a list", wire.Values(nil, []api.Value{three, {Kind: kind}}), readers()["Values"])
	}
	fails(t, "no integer", []byte{2}, f)
	fails(t, "an integer that is too long", []byte{2, 0x80, 0}, f)
	fails(t, "a text that ends early", []byte{4, 4, 'a'}, f)
	fails(t, "a text with a negative length", []byte{4, 1}, f)
}

// P1.1: an event has at most MaxFields values, and each of its parts may fail.
func TestEventLimits(t *testing.T) {
	f := readers()["Event"]
	values := []api.Value{three, textA, three, textA, three}
	for n := range api.MaxFields + 1 {
		x := api.Event{Role: -1, Peer: math.MaxInt, Label: math.MinInt, Values: values[:n]}
		if n == 0 {
			x.Values = nil
		}
		reads(t, "Event", append(wire.Event(nil, x), 1, 2), 2, f, x)
	}
	fails(t, "five values", wire.Event(nil, api.Event{Values: values}), f)
	for _, b := range [][]byte{
		{0x80, 0, 1, 4, 6, 0},
		{2, 2, 4, 6, 0},
		{2, 1, 0x80, 0, 6, 0},
		{2, 1, 4, 0x80, 0, 0},
		{2, 1, 4, 6, 1},
		{2, 1, 4, 6, 0x80, 0},
		{2, 1, 4, 6, 2, 0},
		{2, 1, 4, 6, 4, 2, 6, 6, 0},
		{2, 1, 4, 6, 4, 2, 6, 4, 1, 'a'},
	} {
		fails(t, "Event", b, f)
		fails(t, "Event with bytes behind it", append(b, 0x80), f)
	}
	fails(t, "Event that ends early", []byte{2, 1, 4, 6, 4, 2, 6, 4, 4, 'a'}, f)
}

// P1.1, P1.5: a failure in the middle of something with several parts leaves the offset at its beginning.
func TestFailureBehindOtherReads(t *testing.T) {
	begin := wire.Text(wire.Int(nil, 1000), "abc")
	for name, b := range map[string][]byte{
		"Int":     {0x80, 0x80, 0},
		"Bounded": wire.Int(nil, 1001),
		"Bool":    {2},
		"Text":    {6, 'a', 'b'},
		"Bytes":   {6, 'a', 'b'},
		"Ints":    {6, 2, 2, 0x80, 0},
		"Value":   {4, 4, 'a'},
		"Values":  {6, 2, 2, 4, 2, 'a', 0},
		"Event":   {2, 0, 2, 2, 6, 2, 2, 4, 2, 'a', 0},
	} {
		r := wire.New(append(bytes.Clone(begin), b...))
		if r.Int() != 1000 || r.Text(3) != "abc" {
			t.Fatal(name)
		}
		if x := readers()[name](r); !isZero(x) {
			t.Errorf("%s: %v", name, x)
		}
		stopped(t, name, r, len(b))
	}
}

// P1.5: a failure counts, even if all bytes have been read, or the rest could be read.
func TestFailureAtTheEnd(t *testing.T) {
	for name, f := range readers() {
		r := wire.New([]byte{0})
		if r.Int() != 0 || r.End() != api.OK {
			t.Fatal(name)
		}
		if x := f(r); !isZero(x) {
			t.Errorf("%s: %v", name, x)
		}
		stopped(t, name, r, 0)
	}
	r := wire.New([]byte{2, 2, 1, 2, 6, 0, 0})
	if r.Bounded(2, 3) != 0 {
		t.Error("Bounded")
	}
	stopped(t, "Bounded", r, 7)
}

// P1.1: End and Left do not change the reader.
func TestEnd(t *testing.T) {
	r := wire.New([]byte{2, 4})
	for _, c := range []struct{ left, next int }{{2, 1}, {1, 2}} {
		if r.End() != api.ErrForm || r.End() != api.ErrForm || r.Left() != c.left || r.Left() != c.left {
			t.Errorf("%d bytes left", c.left)
		}
		if n := r.Int(); n != c.next {
			t.Errorf("got %d, want %d", n, c.next)
		}
	}
	if r.End() != api.OK || r.Left() != 0 || r.End() != api.OK {
		t.Error("the end")
	}
}

// P1.1, P1: readers of nothing, and no reader.
func TestNoReader(t *testing.T) {
	for name, r := range map[string]*wire.Reader{"nil": wire.New(nil), "empty": wire.New([]byte{}), "zero": new(wire.Reader)} {
		if r.Left() != 0 || r.End() != api.OK {
			t.Error(name)
		}
		if r.Int() != 0 || r.End() != api.ErrForm {
			t.Error(name)
		}
	}
	var none *wire.Reader
	for name, f := range readers() {
		if x := f(none); !isZero(x) {
			t.Errorf("%s: %v", name, x)
		}
		if none.Left() != 0 || none.End() != api.ErrState {
			t.Errorf("%s: Left, End", name)
		}
	}
	if none.Bounded(5, 1) != 0 || none.Text(-1) != "" || len(none.Ints(math.MinInt)) != 0 {
		t.Error("limits")
	}
}

// P1.1, P2: a reader has a copy of its bytes.
func TestReaderCopies(t *testing.T) {
	b := []byte{4, 'a', 'b', 2, 6}
	r := wire.New(b)
	if !bytes.Equal(b, []byte{4, 'a', 'b', 2, 6}) {
		t.Error("New changes b")
	}
	for i := range b {
		b[i] = 0x80
	}
	if r.Text(2) != "ab" || r.Int() != 1 || r.Int() != 3 || r.End() != api.OK {
		t.Error("the reader shares memory with b")
	}
}

// P1.1, P2: results share no memory with the reader, nor with its argument or each other.
func TestResultsAreNew(t *testing.T) {
	b := wire.Bytes(wire.Bytes(nil, []byte{1, 2}), []byte{3, 4})
	before := bytes.Clone(b)
	r := wire.New(b)
	again := *r
	x := r.Bytes(2)
	x[0] = 99
	x = append(x, 77, 77, 77)
	y := r.Bytes(2)
	y[1] = 88
	if !slices.Equal(x, []byte{99, 2, 77, 77, 77}) || !slices.Equal(y, []byte{3, 88}) || !bytes.Equal(b, before) {
		t.Errorf("x = %v, y = %v, b = %v", x, y, b)
	}
	if p, q := again.Bytes(2), again.Bytes(2); !slices.Equal(p, []byte{1, 2}) || !slices.Equal(q, []byte{3, 4}) {
		t.Errorf("read again: %v, %v", p, q)
	}
}
