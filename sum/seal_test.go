package sum_test

import (
	"bytes"
	"encoding/binary"
	"testing"

	"farandole/api"
	"farandole/sum"
)

// open tests that b is opened with this result.
func open(t *testing.T, b, payload []byte, want api.Errno) {
	t.Helper()
	x, e := sum.Open(b)
	if e != want || !bytes.Equal(x, payload) {
		t.Errorf("% x: got % x %v, want % x %v", b, x, e, payload, want)
	}
}

// P2.1: a sealed byte string is the payload and its hash, the most significant byte first.
func TestSeal(t *testing.T) {
	empty := []byte{0xcb, 0xf2, 0x9c, 0xe4, 0x84, 0x22, 0x23, 0x25}
	for s, want := range map[string][]byte{
		"":       empty,
		"a":      {'a', 0xaf, 0x63, 0xdc, 0x4c, 0x86, 0x01, 0xec, 0x8c},
		"foobar": {'f', 'o', 'o', 'b', 'a', 'r', 0x85, 0x94, 0x41, 0x71, 0xf7, 0x39, 0x67, 0xe8},
	} {
		if b := sum.Seal([]byte(s)); !bytes.Equal(b, want) {
			t.Errorf("%q: got % x, want % x", s, b, want)
		}
	}
	if b := sum.Seal(nil); !bytes.Equal(b, empty) {
		t.Errorf("nil: % x", b)
	}
	for _, b := range byteStrings() {
		want := binary.BigEndian.AppendUint64(bytes.Clone(b), sum.Of(b))
		if got := sum.Seal(b); !bytes.Equal(got, want) {
			t.Errorf("% x: got % x, want % x", b, got, want)
		}
	}
}

// P2.4: what was sealed is opened, once or several times sealed.
func TestOpen(t *testing.T) {
	for _, b := range byteStrings() {
		once := sum.Seal(b)
		twice := sum.Seal(once)
		open(t, once, b, api.OK)
		open(t, twice, once, api.OK)
	}
	open(t, sum.Seal(nil), nil, api.OK)
}

// P2.1: fewer than eight bytes are no sealed byte string, whatever they are.
func TestOpenShort(t *testing.T) {
	open(t, nil, nil, api.ErrForm)
	empty := sum.Seal(nil)
	for n := range 8 {
		open(t, make([]byte, n), nil, api.ErrForm)
		open(t, empty[:n], nil, api.ErrForm)
		open(t, empty[8-n:], nil, api.ErrForm)
		open(t, sum.Seal([]byte("foobar"))[:n], nil, api.ErrForm)
	}
	open(t, make([]byte, 8), nil, api.ErrSum)
	open(t, make([]byte, 9), nil, api.ErrSum)
}

// P2.4: one changed byte is found, be it one of the payload or of the checksum.
func TestDamage(t *testing.T) {
	for _, s := range []string{"", "a", "\x00", "foobar", "\xff\xff\xff\xff\xff\xff\xff\xff\xff"} {
		sealed := sum.Seal([]byte(s))
		for i := range sealed {
			for d := 1; d < 256; d++ {
				b := bytes.Clone(sealed)
				b[i] ^= byte(d)
				open(t, b, nil, api.ErrSum)
			}
		}
	}
}

// P2.1: the last eight bytes are the hash of the others, and of nothing else.
func TestOpenOtherChecksums(t *testing.T) {
	for _, s := range []string{"a", "foobar", "12345678"} {
		b := []byte(s)
		for _, other := range byteStrings() {
			if !bytes.Equal(other, b) {
				open(t, append([]byte(s), sum.Seal(other)[len(other):]...), nil, api.ErrSum)
			}
		}
		open(t, binary.LittleEndian.AppendUint64([]byte(s), sum.Of(b)), nil, api.ErrSum)
		open(t, binary.BigEndian.AppendUint64([]byte(s), sum.From(0, b)), nil, api.ErrSum)
		open(t, binary.BigEndian.AppendUint64(nil, sum.Of(b)), nil, api.ErrSum)
		open(t, append(sum.Seal(b)[len(b):], b...), nil, api.ErrSum)
		open(t, append(sum.Seal(b), 0), nil, api.ErrSum)
		open(t, sum.Seal(b)[1:], nil, api.ErrSum)
	}
}

// P2: results are new memory, and arguments are not modified, also not in their capacity.
func TestSealsAreNew(t *testing.T) {
	for _, s := range []string{"", "a", "foobar"} {
		memory := append([]byte(s), "0123456789abcdef"...)
		b := memory[:len(s)]
		sealed := sum.Seal(b)
		sealedBefore := bytes.Clone(sealed)
		if string(memory) != s+"0123456789abcdef" {
			t.Errorf("Seal changes % x", memory)
		}
		payload, e := sum.Open(sealed)
		again, _ := sum.Open(sealed)
		overwrite(payload)
		if e != api.OK || !bytes.Equal(sealed, sealedBefore) || string(again) != s {
			t.Errorf("%q: the payload shares memory: % x, % x", s, sealed, again)
		}
		overwrite(sealed)
		if string(memory) != s+"0123456789abcdef" || string(again) != s {
			t.Errorf("%q: the sealed byte string shares memory: % x, % x", s, memory, again)
		}
	}
}

// overwrite changes all bytes of b, and those of its capacity.
func overwrite(b []byte) {
	b = b[:cap(b)]
	for i := range b {
		b[i] ^= 0xff
	}
}

// P2: a byte string that is not opened is not modified either.
func TestRefusedBytesStay(t *testing.T) {
	for _, b := range byteStrings() {
		before := bytes.Clone(b)
		x, e := sum.Open(b)
		if e == api.OK || len(x) != 0 || !bytes.Equal(b, before) {
			t.Errorf("% x: % x %v, then % x", before, x, e, b)
		}
	}
}

func FuzzOpen(f *testing.F) {
	f.Add([]byte{})
	f.Add(sum.Seal([]byte("foobar")))
	f.Fuzz(func(t *testing.T, b []byte) {
		x, e := sum.Open(b)
		switch {
		case len(b) < 8 && e != api.ErrForm:
			t.Errorf("% x: %v", b, e)
		case e == api.OK && !bytes.Equal(sum.Seal(x), b):
			t.Errorf("% x has the payload % x", b, x)
		}
		open(t, sum.Seal(b), b, api.OK)
	})
}
