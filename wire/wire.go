// Package wire implements layer 1: binary encoding of values. See shared/doc/01-wire.md.
package wire

import (
	"bytes"
	"math"
	"slices"

	"farandole/api"
)

// maxDigits is the greatest number of digits, in base 128, of 64 bits.
const maxDigits = 10

// Int appends the encoding of an integer.
func Int(b []byte, n int) []byte {
	// The shift of a negative number yields -1, which inverts all bits of 2n.
	u := uint64(n)<<1 ^ uint64(n>>63)
	for u >= 128 {
		b = append(b, byte(u)|128)
		u >>= 7
	}
	return append(b, byte(u))
}

// Bool appends the encoding of a boolean.
func Bool(b []byte, v bool) []byte {
	if v {
		return append(b, 1)
	}
	return append(b, 0)
}

// Text appends the encoding of a text.
func Text(b []byte, s string) []byte { return append(Int(b, len(s)), s...) }

// Bytes appends the encoding of a byte string.
func Bytes(b, x []byte) []byte {
	// The length comes last, as x may lie in the capacity of b, where writing
	// the length would overwrite it.
	n := len(b)
	b = append(b, x...)
	return slices.Insert(b, n, Int(nil, len(b)-n)...)
}

// Ints appends the encoding of a list of integers.
func Ints(b []byte, l []int) []byte { return list(b, l, Int) }

// Value appends the encoding of a value.
func Value(b []byte, v api.Value) []byte {
	b = Int(b, v.Kind)
	switch v.Kind {
	case api.SortInt:
		b = Int(b, v.N)
	case api.SortText:
		b = Text(b, v.S)
	}
	return b
}

// Values appends the encoding of a list of values.
func Values(b []byte, l []api.Value) []byte { return list(b, l, Value) }

// Event appends the encoding of an event.
func Event(b []byte, x api.Event) []byte {
	b = Int(b, x.Role)
	b = Bool(b, x.Send)
	b = Int(b, x.Peer)
	b = Int(b, x.Label)
	return Values(b, x.Values)
}

// list appends the number of the elements, and then each of them.
func list[T any](b []byte, l []T, element func([]byte, T) []byte) []byte {
	b = Int(b, len(l))
	for _, x := range l {
		b = element(b, x)
	}
	return b
}

// Reader decodes bytes.
type Reader struct {
	data   []byte
	at     int
	failed bool
}

// New returns a reader of a copy of b.
func New(b []byte) *Reader { return &Reader{data: bytes.Clone(b)} }

// Int reads an integer.
func (r *Reader) Int() int { return r.Bounded(math.MinInt, math.MaxInt) }

// Bounded reads an integer from lo to hi.
func (r *Reader) Bounded(lo, hi int) int {
	if r.stopped() {
		return 0
	}
	u, size := digits(r.data[r.at:])
	n := int(u>>1) ^ -int(u&1)
	if size == 0 || n < lo || n > hi {
		r.failed = true
		return 0
	}
	r.at += size
	return n
}

// Bool reads a boolean.
func (r *Reader) Bool() bool {
	if r.stopped() {
		return false
	}
	if r.Left() == 0 || r.data[r.at] > 1 {
		r.failed = true
		return false
	}
	r.at++
	return r.data[r.at-1] == 1
}

// Text reads a text of at most max bytes.
func (r *Reader) Text(max int) string { return part(r, max, r.text) }

// Bytes reads a byte string of at most max bytes.
func (r *Reader) Bytes(max int) []byte { return part(r, max, r.bytes) }

// Ints reads a list of at most max integers.
func (r *Reader) Ints(max int) []int { return part(r, max, r.ints) }

// Value reads a proper value.
func (r *Reader) Value() api.Value { return whole(r, r.value) }

// Values reads a list of at most max proper values.
func (r *Reader) Values(max int) []api.Value { return part(r, max, r.values) }

// Event reads an event.
func (r *Reader) Event() api.Event { return whole(r, r.event) }

// Left returns the number of bytes after the offset.
func (r *Reader) Left() int {
	if r == nil {
		return 0
	}
	return len(r.data) - r.at
}

// End returns OK if no method has failed and all bytes have been read.
func (r *Reader) End() api.Errno {
	switch {
	case r == nil:
		return api.ErrState
	case r.failed || r.Left() > 0:
		return api.ErrForm
	}
	return api.OK
}

func (r *Reader) stopped() bool { return r == nil || r.failed }

// take reads n bytes. It returns memory of the reader.
func (r *Reader) take(n int) []byte {
	if n > r.Left() {
		r.failed = true
		return nil
	}
	r.at += n
	return r.data[r.at-n : r.at]
}

func (r *Reader) text(n int) string { return string(r.take(n)) }

func (r *Reader) bytes(n int) []byte { return bytes.Clone(r.take(n)) }

func (r *Reader) ints(n int) []int { return elements(r, n, r.Int) }

func (r *Reader) values(n int) []api.Value { return elements(r, n, r.Value) }

func (r *Reader) value() api.Value {
	v := api.Value{Kind: r.Int()}
	switch v.Kind {
	case api.SortInt:
		v.N = r.Int()
	case api.SortText:
		v.S = r.Text(api.MaxText)
	default:
		r.failed = true
	}
	return v
}

func (r *Reader) event() api.Event {
	var x api.Event
	x.Role = r.Int()
	x.Send = r.Bool()
	x.Peer = r.Int()
	x.Label = r.Int()
	x.Values = r.Values(api.MaxFields)
	return x
}

// part reads a length of at most max, and then, with read, a part of this length.
func part[T any](r *Reader, max int, read func(n int) T) T {
	return whole(r, func() T { return read(r.Bounded(0, max)) })
}

// whole reads something that has several parts. If one of them fails, the
// offset is where it was before the first one.
func whole[T any](r *Reader, read func() T) T {
	var none T
	if r.stopped() {
		return none
	}
	start := r.at
	x := read()
	if r.failed {
		r.at = start
		return none
	}
	return x
}

// elements reads n elements. The list grows with what is there, as n alone may
// be far greater than the bytes that follow.
func elements[T any](r *Reader, n int, read func() T) []T {
	var l []T
	for range n {
		x := read()
		if r.failed {
			return nil
		}
		l = append(l, x)
	}
	return l
}

// digits returns the number with the digits at the beginning of b, and how many
// they are, or 0 if there is no such number.
func digits(b []byte) (u uint64, size int) {
	for i, c := range b {
		if i == maxDigits-1 && c > 1 {
			return 0, 0
		}
		u |= uint64(c&127) << (7 * i)
		if c < 128 {
			if c == 0 && i > 0 {
				return 0, 0
			}
			return u, i + 1
		}
	}
	return 0, 0
}
