package wire_test

import (
	"bytes"
	"encoding/binary"
	"math"
	"math/rand"
	"slices"
	"strings"
	"testing"

	"farandole/api"
	"farandole/wire"
)

var (
	three = api.Value{Kind: api.SortInt, N: 3}
	textA = api.Value{Kind: api.SortText, S: "a"}
)

// integers returns the integers near which the length of the encoding changes, and some others.
func integers() []int {
	l := []int{0, 1, -1, math.MaxInt, math.MinInt, math.MaxInt - 1, math.MinInt + 1}
	for k := range 63 {
		n := 1 << k
		l = append(l, n-1, n, n+1, -n-1, -n, -n+1)
	}
	random := rand.New(rand.NewSource(1))
	for range 2000 {
		l = append(l, int(random.Uint64())>>random.Intn(64))
	}
	return l
}

func check(t *testing.T, what string, got, want []byte) {
	t.Helper()
	if !bytes.Equal(got, want) {
		t.Errorf("%s: got % x, want % x", what, got, want)
	}
}

// P1.1: integers, as in the section Encoding and its examples.
func TestIntEncoding(t *testing.T) {
	for _, c := range []struct {
		n    int
		want []byte
	}{
		{0, []byte{0}},
		{-1, []byte{1}},
		{1, []byte{2}},
		{63, []byte{0x7e}},
		{-64, []byte{0x7f}},
		{64, []byte{0x80, 1}},
		{-65, []byte{0x81, 1}},
		{8191, []byte{0xfe, 0x7f}},
		{-8192, []byte{0xff, 0x7f}},
		{8192, []byte{0x80, 0x80, 1}},
		{math.MaxInt, []byte{0xfe, 0xff, 0xff, 0xff, 0xff, 0xff, 0xff, 0xff, 0xff, 1}},
		{math.MinInt, []byte{0xff, 0xff, 0xff, 0xff, 0xff, 0xff, 0xff, 0xff, 0xff, 1}},
	} {
		check(t, "Int", wire.Int(nil, c.n), c.want)
	}
	for _, n := range integers() {
		check(t, "Int", wire.Int(nil, n), binary.AppendVarint(nil, int64(n)))
	}
}

// P1.1: booleans, texts and byte strings.
func TestSimpleEncodings(t *testing.T) {
	check(t, "false", wire.Bool(nil, false), []byte{0})
	check(t, "true", wire.Bool(nil, true), []byte{1})
	for _, c := range []struct {
		s    string
		want []byte
	}{
		{"", []byte{0}},
		{"a", []byte{2, 'a'}},
		{"\x00\xff", []byte{4, 0, 0xff}},
		{strings.Repeat("b", 63), append([]byte{0x7e}, strings.Repeat("b", 63)...)},
		{strings.Repeat("b", 64), append([]byte{0x80, 1}, strings.Repeat("b", 64)...)},
		{strings.Repeat("c", 8192), append([]byte{0x80, 0x80, 1}, strings.Repeat("c", 8192)...)},
	} {
		check(t, "Text", wire.Text(nil, c.s), c.want)
		check(t, "Bytes", wire.Bytes(nil, []byte(c.s)), c.want)
	}
	check(t, "Bytes of nil", wire.Bytes(nil, nil), []byte{0})
}

// P1.1: lists of integers, values, lists of values and events.
func TestListEncodings(t *testing.T) {
	check(t, "Ints of nil", wire.Ints(nil, nil), []byte{0})
	check(t, "Ints of an empty list", wire.Ints(nil, []int{}), []byte{0})
	check(t, "Ints", wire.Ints(nil, []int{1, -1, 64}), []byte{6, 2, 1, 0x80, 1})
	check(t, "64 Ints", wire.Ints(nil, make([]int, 64)), append([]byte{0x80, 1}, make([]byte, 64)...))
	check(t, "Value 3", wire.Value(nil, three), []byte{2, 6})
	check(t, "Value a", wire.Value(nil, textA), []byte{4, 2, 'a'})
	check(t, "an empty text", wire.Value(nil, api.Value{Kind: api.SortText}), []byte{4, 0})
	check(t, "Values of nil", wire.Values(nil, nil), []byte{0})
	check(t, "Values", wire.Values(nil, []api.Value{textA, three}), []byte{4, 4, 2, 'a', 2, 6})
	check(t, "an empty event", wire.Event(nil, api.Event{}), []byte{0, 0, 0, 0, 0})
	x := api.Event{Role: 5, Send: true, Peer: -1, Label: 64, Values: []api.Value{three, textA}}
	check(t, "Event", wire.Event(nil, x), []byte{10, 1, 1, 0x80, 1, 4, 2, 6, 4, 2, 'a'})
}

// P1.1: values that are not proper, and more of them and longer ones than can be read.
func TestEncodingsBeyondLimits(t *testing.T) {
	check(t, "kind 0", wire.Value(nil, api.Value{N: 3, S: "a"}), []byte{0})
	check(t, "kind 3", wire.Value(nil, api.Value{Kind: 3, N: 3, S: "a"}), []byte{6})
	check(t, "kind -1", wire.Value(nil, api.Value{Kind: -1}), []byte{1})
	check(t, "kind 64", wire.Value(nil, api.Value{Kind: 64}), []byte{0x80, 1})
	check(t, "an integer with a text", wire.Value(nil, api.Value{Kind: api.SortInt, N: 3, S: "a"}), []byte{2, 6})
	check(t, "a text with an integer", wire.Value(nil, api.Value{Kind: api.SortText, N: 3, S: "a"}), []byte{4, 2, 'a'})
	check(t, "a list with kind 0", wire.Values(nil, []api.Value{{}, three}), []byte{4, 0, 2, 6})
	long := strings.Repeat("d", api.MaxText+1)
	check(t, "a long text", wire.Value(nil, api.Value{Kind: api.SortText, S: long}), append([]byte{4, 82}, long...))
	five := []api.Value{three, three, three, three, three}
	check(t, "five values", wire.Event(nil, api.Event{Values: five}), []byte{0, 0, 0, 0, 10, 2, 6, 2, 6, 2, 6, 2, 6, 2, 6})
}

// appenders are calls of all functions that append, by name.
func appenders() map[string]func(b []byte) []byte {
	return map[string]func(b []byte) []byte{
		"Int":    func(b []byte) []byte { return wire.Int(b, 64) },
		"Bool":   func(b []byte) []byte { return wire.Bool(b, true) },
		"Text":   func(b []byte) []byte { return wire.Text(b, "ab") },
		"Bytes":  func(b []byte) []byte { return wire.Bytes(b, []byte{7, 8}) },
		"Ints":   func(b []byte) []byte { return wire.Ints(b, []int{9, -9}) },
		"Value":  func(b []byte) []byte { return wire.Value(b, textA) },
		"Values": func(b []byte) []byte { return wire.Values(b, []api.Value{three, textA}) },
		"Event":  func(b []byte) []byte { return wire.Event(b, api.Event{Role: 1, Values: []api.Value{textA}}) },
	}
}

// P1.1, P3: an encoding is appended, whatever b is and whatever its capacity.
func TestAppend(t *testing.T) {
	for name, f := range appenders() {
		alone := f(nil)
		check(t, name+" again", f(nil), alone)
		check(t, name+" to an empty list", f([]byte{}), alone)
		for spare := range 20 {
			b := make([]byte, 3, 3+spare)
			copy(b, "xyz")
			want := append([]byte("xyz"), alone...)
			check(t, name, f(b), want)
			check(t, name+" changes b", b, []byte("xyz"))
		}
	}
}

// P1.1, P2: the arguments are not modified, and the result keeps nothing of them.
func TestArgumentsStay(t *testing.T) {
	x, l := []byte{1, 2}, []int{3, 4}
	v := []api.Value{three, textA, {Kind: 9, N: 1, S: "b"}}
	e := api.Event{Role: 1, Values: v}
	results := [][]byte{wire.Bytes(nil, x), wire.Ints(nil, l), wire.Values(nil, v), wire.Event(nil, e)}
	for _, b := range results {
		for i := range b {
			b[i] = 0xee
		}
	}
	if !slices.Equal(x, []byte{1, 2}) || !slices.Equal(l, []int{3, 4}) {
		t.Errorf("x = %v, l = %v", x, l)
	}
	if !slices.Equal(v, []api.Value{three, textA, {Kind: 9, N: 1, S: "b"}}) {
		t.Errorf("v = %v", v)
	}
}

// P1.1: the byte string may lie in the capacity of b, or be b.
func TestBytesOfTheSameMemory(t *testing.T) {
	for at := range 5 {
		memory := []byte("abcdefghijklmnopqrst")
		check(t, "Bytes", wire.Bytes(memory[:2], memory[at:at+6]), append([]byte("ab\x0c"), "abcdefghijkl"[at:at+6]...))
	}
	b := append(make([]byte, 0, 40), "abc"...)
	check(t, "Bytes of b", wire.Bytes(b, b), []byte("abc\x06abc"))
}
