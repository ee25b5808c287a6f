package wire_test

import (
	"bytes"
	"encoding/binary"
	"math"
	"math/rand"
	"reflect"
	"strings"
	"testing"

	"farandole/api"
	"farandole/wire"
)

// codec has an encoding function, the read method for it, and values of its type.
type codec struct {
	name   string
	put    func(b []byte, x any) []byte
	get    func(r *wire.Reader) any
	values []any
}

func codecs() []codec {
	get := readers()
	return []codec{
		{"Int", func(b []byte, x any) []byte { return wire.Int(b, x.(int)) }, get["Int"], anyOf(integers())},
		{"Bool", func(b []byte, x any) []byte { return wire.Bool(b, x.(bool)) }, get["Bool"], []any{false, true}},
		{"Text", func(b []byte, x any) []byte { return wire.Text(b, x.(string)) }, get["Text"], anyOf(texts())},
		{"Bytes", func(b []byte, x any) []byte { return wire.Bytes(b, x.([]byte)) }, get["Bytes"], byteStrings()},
		{"Ints", func(b []byte, x any) []byte { return wire.Ints(b, x.([]int)) }, get["Ints"], lists(integers()[:60])},
		{"Value", func(b []byte, x any) []byte { return wire.Value(b, x.(api.Value)) }, get["Value"], anyOf(properValues())},
		{"Values", func(b []byte, x any) []byte { return wire.Values(b, x.([]api.Value)) }, get["Values"], lists(properValues()[:30])},
		{"Event", func(b []byte, x any) []byte { return wire.Event(b, x.(api.Event)) }, get["Event"], events()},
	}
}

func anyOf[T any](l []T) []any {
	var all []any
	for _, x := range l {
		all = append(all, x)
	}
	return all
}

func texts() []string {
	l := []string{"", "a", "b", "ab", "\x00", "\x00\x00", "\xff\x80", "\x01\x01", "é", "2\x00a"}
	for _, n := range []int{39, 40, 62, 63, 64, 65, 300, 999, 1000} {
		l = append(l, strings.Repeat("x", n), strings.Repeat("\x00", n))
	}
	return l
}

func byteStrings() []any {
	var l []any
	for _, s := range texts() {
		l = append(l, []byte(s))
	}
	return l
}

// lists returns lists of the elements of l, with 0 to 5 and more elements.
func lists[T any](l []T) []any {
	all := []any{[]T(nil), l}
	for i := range l {
		for n := 1; n <= 5 && i+n <= len(l); n++ {
			all = append(all, l[i:i+n])
		}
	}
	return all
}

func properValues() []api.Value {
	var l []api.Value
	for i, n := range integers() {
		l = append(l, api.Value{Kind: api.SortInt, N: n})
		if s := texts(); i < len(s) && len(s[i]) <= api.MaxText {
			l = append(l, api.Value{Kind: api.SortText, S: s[i]})
		}
	}
	return l
}

func events() []any {
	random := rand.New(rand.NewSource(2))
	numbers, values := integers(), properValues()
	all := []any{api.Event{}, api.Event{Role: 1}, api.Event{Peer: 1}, api.Event{Label: 1}, api.Event{Send: true}}
	for k := range 300 {
		x := api.Event{Send: k%2 == 0}
		x.Role = numbers[random.Intn(len(numbers))]
		x.Peer = numbers[random.Intn(len(numbers))]
		x.Label = numbers[random.Intn(len(numbers))]
		for range random.Intn(api.MaxFields + 1) {
			x.Values = append(x.Values, values[random.Intn(len(values))])
		}
		all = append(all, x)
	}
	return all
}

// P1.2: what was encoded is read back, whatever follows it, and whatever is ahead of it.
func TestRoundTrip(t *testing.T) {
	for _, c := range codecs() {
		for _, x := range c.values {
			for _, rest := range []string{"", "\x00", "\x80", "\xff\xff\xff", "\x02\x01\x04\x06"} {
				b := c.put(nil, x)
				reads(t, c.name, append(b, rest...), len(rest), c.get, x)
			}
			r := wire.New(c.put(c.put(nil, x), x))
			if c.get(r); r.End() != api.ErrForm {
				t.Errorf("%s: %v: one of two", c.name, x)
			}
			if c.get(r); r.End() != api.OK {
				t.Errorf("%s: %v: two", c.name, x)
			}
		}
	}
}

// P1.3: different values have different encodings.
func TestDifferentEncodings(t *testing.T) {
	for _, c := range codecs() {
		seen := map[string]any{}
		for _, x := range c.values {
			b := string(c.put(nil, x))
			y, ok := seen[b]
			if ok && !reflect.DeepEqual(x, y) {
				t.Errorf("%s: %v and %v have the encoding % x", c.name, x, y, b)
			}
			seen[b] = x
		}
	}
}

// P1.3: of all short byte strings, those are read whose bytes are an encoding.
func TestCanonical(t *testing.T) {
	alphabet := []byte{0, 1, 2, 3, 4, 6, 'a', 0x7f, 0x80, 0x81, 0xff}
	all := codecs()
	var extend func(b []byte, more int)
	extend = func(b []byte, more int) {
		for _, c := range all {
			r := wire.New(b)
			x := c.get(r)
			read := b[:len(b)-r.Left()]
			if len(read) > 0 && !bytes.Equal(c.put(nil, x), read) {
				t.Errorf("%s: % x is read as %v", c.name, read, x)
			}
			if len(read) == 0 && (!isZero(x) || r.End() != api.ErrForm) {
				t.Errorf("%s: % x: nothing is read, but %v", c.name, b, x)
			}
		}
		if more == 0 {
			return
		}
		for _, c := range alphabet {
			extend(append(b[:len(b):len(b)], c), more-1)
		}
	}
	extend(nil, 4)
}

// P1.3: an integer is read from two bytes exactly if they begin with one of the encodings.
func TestAllShortInts(t *testing.T) {
	encodings := map[string]int{}
	for n := -8192; n < 8192; n++ {
		encodings[string(wire.Int(nil, n))] = n
	}
	for i := range 1 << 16 {
		b := []byte{byte(i >> 8), byte(i)}
		n, ok := encodings[string(b[:1])]
		left := 1
		if !ok {
			n, ok = encodings[string(b)]
			left = 0
		}
		r := wire.New(b)
		m := r.Int()
		if ok && (m != n || r.Left() != left) || !ok && (m != 0 || r.Left() != 2 || r.End() != api.ErrForm) {
			t.Fatalf("% x: %d", b, m)
		}
	}
}

// P1.4: no proper prefix of an encoding can be read.
func TestPrefixFree(t *testing.T) {
	for _, c := range codecs() {
		for _, x := range c.values {
			b := c.put(nil, x)
			for n := range min(len(b), 100) {
				fails(t, c.name, b[:n], c.get)
			}
		}
	}
}

// P1, P3: readers of arbitrary bytes do not panic, and two of them return the same.
func FuzzRead(f *testing.F) {
	f.Add([]byte{}, []byte{})
	f.Add([]byte{2, 1, 4, 6, 4, 2, 6, 4, 2, 'a'}, []byte{8})
	f.Add([]byte{0x80, 0x80, 0x80, 0x80, 0x80, 0x80, 0x80, 0x80, 0x80, 1, 6, 'a', 'b', 'c', 0}, []byte{0, 3, 0})
	f.Fuzz(func(t *testing.T, b, calls []byte) {
		r, s, m := wire.New(b), wire.New(b), &model{data: b}
		for _, c := range calls {
			k, max := int(c&15)%9, int(c>>4)-1
			x, y, z := call(r, k, max), call(s, k, max), call(m, k, max)
			if !same(x, y) || !same(x, z) || r.Left() != s.Left() || r.Left() != m.left() {
				t.Fatalf("call %d with %d: %v, %v, %v", k, max, x, y, z)
			}
		}
		if e := r.End(); e != s.End() || (e == api.OK) != (m.left() == 0 && !m.failed) {
			t.Fatal(e)
		}
	})
}

// P1.1, P1.5: after any sequence of calls, a reader returns what the model does.
func TestAnySequence(t *testing.T) {
	random, all := rand.New(rand.NewSource(3)), codecs()
	limits := []int{math.MinInt, -1, 0, 1, 2, 3, 4, 50, math.MaxInt}
	for range 30000 {
		b := randomBytes(random, all)
		r, m := wire.New(b), &model{data: b}
		for range random.Intn(12) {
			k, max := random.Intn(9), limits[random.Intn(len(limits))]
			if x, y := call(r, k, max), call(m, k, max); !same(x, y) || r.Left() != m.left() {
				t.Fatalf("% x: call %d with %d: got %v, want %v; %d left, want %d", b, k, max, x, y, r.Left(), m.left())
			}
			if (r.End() == api.OK) != (m.left() == 0 && !m.failed) {
				t.Fatalf("% x: End returns %v", b, r.End())
			}
		}
	}
}

// randomBytes returns some encodings, sometimes with a changed byte or without the last ones.
func randomBytes(random *rand.Rand, all []codec) []byte {
	var b []byte
	for range random.Intn(6) {
		c := all[random.Intn(len(all))]
		x := c.put(nil, c.values[random.Intn(len(c.values))])
		if len(x) < 100 {
			b = append(b, x...)
		}
	}
	if len(b) > 0 && random.Intn(2) == 0 {
		b[random.Intn(len(b))] = byte(random.Intn(256))
	}
	if len(b) > 0 && random.Intn(3) == 0 {
		b = b[:random.Intn(len(b))]
	}
	return b
}

// source is what wire.Reader and model have in common.
type source interface {
	Int() int
	Bounded(lo, hi int) int
	Bool() bool
	Text(max int) string
	Bytes(max int) []byte
	Ints(max int) []int
	Value() api.Value
	Values(max int) []api.Value
	Event() api.Event
}

func call(r source, k, max int) any {
	switch k {
	case 0:
		return r.Int()
	case 1:
		return r.Bounded(-2, max)
	case 2:
		return r.Bool()
	case 3:
		return r.Text(max)
	case 4:
		return r.Bytes(max)
	case 5:
		return r.Ints(max)
	case 6:
		return r.Value()
	case 7:
		return r.Values(max)
	}
	return r.Event()
}

// same compares two results; nil and empty lists are equal.
func same(x, y any) bool {
	return isZero(x) && isZero(y) || reflect.DeepEqual(x, y)
}

// model decodes integers with encoding/binary, whose form is the same, but for
// needless digits, which it permits. What has several parts is decoded with a
// copy of the model, so that a failure leaves the offset unchanged.
type model struct {
	data   []byte
	failed bool
}

func (m *model) left() int { return len(m.data) }

// step calls f with a copy, which replaces m if f does not fail.
func step[T any](m *model, f func(c *model) T) T {
	c := *m
	x := f(&c)
	if m.failed || c.failed {
		m.failed = true
		return *new(T)
	}
	*m = c
	return x
}

func (m *model) Bounded(lo, hi int) int {
	return step(m, func(c *model) int {
		n, size := binary.Varint(c.data)
		if size <= 0 || len(binary.AppendVarint(nil, n)) != size || int(n) < lo || int(n) > hi {
			c.failed = true
			return 0
		}
		c.data = c.data[size:]
		return int(n)
	})
}

func (m *model) Int() int { return m.Bounded(math.MinInt, math.MaxInt) }

func (m *model) Bool() bool {
	return step(m, func(c *model) bool {
		if len(c.data) == 0 || c.data[0] > 1 {
			c.failed = true
			return false
		}
		x := c.data[0] == 1
		c.data = c.data[1:]
		return x
	})
}

func (m *model) Bytes(max int) []byte { return []byte(m.Text(max)) }

func (m *model) Text(max int) string {
	return step(m, func(c *model) string {
		n := c.Bounded(0, max)
		if n > len(c.data) {
			c.failed = true
			return ""
		}
		s := string(c.data[:n])
		c.data = c.data[n:]
		return s
	})
}

func (m *model) Ints(max int) []int {
	return step(m, func(c *model) (l []int) {
		for n := c.Bounded(0, max); n > 0 && !c.failed; n-- {
			l = append(l, c.Int())
		}
		return l
	})
}

func (m *model) Values(max int) []api.Value {
	return step(m, func(c *model) (l []api.Value) {
		for n := c.Bounded(0, max); n > 0 && !c.failed; n-- {
			l = append(l, c.Value())
		}
		return l
	})
}

func (m *model) Value() api.Value {
	return step(m, func(c *model) api.Value {
		if c.Bounded(1, 2) == 1 {
			return api.Value{Kind: 1, N: c.Int()}
		}
		return api.Value{Kind: 2, S: c.Text(40)}
	})
}

func (m *model) Event() api.Event {
	return step(m, func(c *model) (x api.Event) {
		x.Role, x.Send, x.Peer, x.Label = c.Int(), c.Bool(), c.Int(), c.Int()
		x.Values = c.Values(4)
		return x
	})
}
