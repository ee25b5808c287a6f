package sum_test

import (
	"encoding/binary"
	"encoding/hex"
	"math"
	"math/rand"
	"strings"
	"testing"

	"farandole/api"
	"farandole/sum"
)

// hashes returns numbers that have each digit at each place, and random ones.
func hashes() []uint64 {
	l := append(seeds(), 0xfedcba9876543210, 0x8000000000000001)
	for place := range 16 {
		for d := range uint64(16) {
			l = append(l, d<<(4*place), ^(d << (4 * place)))
		}
	}
	random := rand.New(rand.NewSource(2))
	for range 1000 {
		l = append(l, random.Uint64()>>random.Intn(64))
	}
	return l
}

// refused tests that s is not what Digits returns, by Parse.
func refused(t *testing.T, s string) {
	t.Helper()
	if h, e := sum.Parse(s); h != 0 || e != api.ErrSyntax {
		t.Errorf("%q: got %x %v", s, h, e)
	}
}

// P2.1: 16 digits in lower case, the most significant one first.
func TestDigits(t *testing.T) {
	for h, want := range map[uint64]string{
		0:                   "0000000000000000",
		1:                   "0000000000000001",
		255:                 "00000000000000ff",
		1 << 63:             "8000000000000000",
		math.MaxUint64:      "ffffffffffffffff",
		0x0123456789abcdef:  "0123456789abcdef",
		0xfedcba9876543210:  "fedcba9876543210",
		sum.Basis:           "cbf29ce484222325",
		sum.Of([]byte("a")): "af63dc4c8601ec8c",
	} {
		if s := sum.Digits(h); s != want {
			t.Errorf("%d: got %q, want %q", h, s, want)
		}
	}
	for _, h := range hashes() {
		want := hex.EncodeToString(binary.BigEndian.AppendUint64(nil, h))
		if s := sum.Digits(h); s != want {
			t.Errorf("%d: got %q, want %q", h, s, want)
		}
	}
}

// P2.5: every hash is parsed from its digits.
func TestParse(t *testing.T) {
	for _, h := range hashes() {
		if got, e := sum.Parse(sum.Digits(h)); got != h || e != api.OK {
			t.Errorf("%x: got %x %v", h, got, e)
		}
	}
	if h, e := sum.Parse("0123456789abcdef"); h != 0x0123456789abcdef || e != api.OK {
		t.Errorf("all digits: got %x %v", h, e)
	}
}

// P2.5: too few and too many digits.
func TestParseLengths(t *testing.T) {
	for n := range 40 {
		if n != 16 {
			refused(t, strings.Repeat("0", n))
			refused(t, strings.Repeat("f", n))
		}
	}
	refused(t, "cbf29ce48422232")
	refused(t, "cbf29ce4842223255")
	refused(t, "0cbf29ce484222325")
	refused(t, strings.Repeat("0123456789abcdef", 1000))
}

// P2.5: at each place, the only bytes that are accepted are the digits in lower case.
func TestParseOtherBytes(t *testing.T) {
	digits := []byte("cbf29ce484222325")
	for place := range digits {
		for c := range 256 {
			s := append([]byte(nil), digits...)
			s[place] = byte(c)
			if !strings.Contains("0123456789abcdef", string(s[place:place+1])) {
				refused(t, string(s))
				continue
			}
			if h, e := sum.Parse(string(s)); e != api.OK || sum.Digits(h) != string(s) {
				t.Errorf("%q: got %x %v", s, h, e)
			}
		}
	}
	for _, s := range []string{
		"CBF29CE484222325", "0123456789ABCDEF", "cbf29ce48422232F",
		"0xcbf29ce4842223", "+cbf29ce48422232", "-cbf29ce48422232", "cbf29ce4_8422232",
		" cbf29ce48422232", "cbf29ce48422232 ", "cbf29ce48422232\n", "cbf29ce48422232\x00",
		"１cbf29ce484222", "éééééééé", "cbf29ce4842223é",
	} {
		refused(t, s)
	}
}

func FuzzParse(f *testing.F) {
	f.Add("cbf29ce484222325")
	f.Add("CBF29CE484222325")
	f.Add("")
	f.Fuzz(func(t *testing.T, s string) {
		h, e := sum.Parse(s)
		switch {
		case e == api.OK && sum.Digits(h) != s:
			t.Errorf("%q is accepted as %x", s, h)
		case e != api.OK:
			refused(t, s)
		}
	})
}
