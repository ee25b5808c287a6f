package sum_test

import (
	"bytes"
	"hash/fnv"
	"math"
	"math/big"
	"math/rand"
	"strings"
	"testing"

	"farandole/sum"
)

// byteStrings returns short byte strings, among them the empty one, and some random ones.
func byteStrings() [][]byte {
	l := [][]byte{nil, {}, {0}, {0, 0}, {0xff}, []byte("a"), []byte("foobar"), []byte(strings.Repeat("\x00", 100))}
	for c := range 256 {
		l = append(l, []byte{byte(c)}, []byte{'x', byte(c), 0x80})
	}
	random := rand.New(rand.NewSource(1))
	for range 300 {
		b := make([]byte, random.Intn(80))
		random.Read(b)
		l = append(l, b)
	}
	return l
}

func seeds() []uint64 {
	return []uint64{0, 1, 255, 256, 1 << 63, math.MaxUint64, sum.Basis, sum.Basis + 1, 0x0123456789abcdef}
}

// slowHash is the definition with integers of any size.
func slowHash(seed uint64, b []byte) uint64 {
	prime, modulus := big.NewInt(1099511628211), new(big.Int).Lsh(big.NewInt(1), 64)
	h := new(big.Int).SetUint64(seed)
	for _, c := range b {
		h.Xor(h, big.NewInt(int64(c)))
		h.Mul(h, prime)
		h.Mod(h, modulus)
	}
	return h.Uint64()
}

// P2.1: the published hashes of the empty byte string and of some others.
func TestKnownHashes(t *testing.T) {
	for s, want := range map[string]uint64{
		"":       0xcbf29ce484222325,
		"a":      0xaf63dc4c8601ec8c,
		"b":      0xaf63df4c8601f1a5,
		"foo":    0xdcb27518fed9d577,
		"foobar": 0x85944171f73967e8,
		"\x00":   0xaf63bd4c8601b7df,
	} {
		if h := sum.Of([]byte(s)); h != want {
			t.Errorf("%q: got %x, want %x", s, h, want)
		}
	}
	if sum.Of(nil) != sum.Basis || sum.Of([]byte{}) != sum.Basis {
		t.Error("the empty byte string")
	}
	if sum.Basis != 0xcbf29ce484222325 {
		t.Error("Basis")
	}
}

// P2.1: hashes are as defined, from every seed.
func TestHashes(t *testing.T) {
	for _, b := range byteStrings() {
		other := fnv.New64a()
		other.Write(b)
		if h := sum.Of(b); h != other.Sum64() {
			t.Errorf("% x: got %x, want %x", b, h, other.Sum64())
		}
		for _, seed := range seeds() {
			if h, want := sum.From(seed, b), slowHash(seed, b); h != want {
				t.Errorf("%x, % x: got %x, want %x", seed, b, h, want)
			}
		}
	}
}

// P2.1: the hash of nothing is the seed.
func TestHashOfNothing(t *testing.T) {
	for _, seed := range seeds() {
		if sum.From(seed, nil) != seed || sum.From(seed, []byte{}) != seed {
			t.Errorf("from %x", seed)
		}
	}
}

// P2.2: wherever a byte string is cut, the hashes of its parts are composed.
func TestComposition(t *testing.T) {
	for _, b := range byteStrings() {
		for _, seed := range seeds() {
			whole := sum.From(seed, b)
			for cut := range len(b) + 1 {
				if h := sum.From(sum.From(seed, b[:cut]), b[cut:]); h != whole {
					t.Fatalf("%x, % x, cut at %d: got %x, want %x", seed, b, cut, h, whole)
				}
			}
		}
	}
}

// P2.3: byte strings that differ in one byte, wherever it is, have different hashes.
func TestOneByte(t *testing.T) {
	for _, b := range [][]byte{{0}, {0xff}, []byte("ab"), []byte("foobar"), make([]byte, 20)} {
		for _, seed := range seeds() {
			for i := range b {
				seen := map[uint64]byte{}
				for c := range 256 {
					x := bytes.Clone(b)
					x[i] = byte(c)
					h := sum.From(seed, x)
					if d, ok := seen[h]; ok {
						t.Fatalf("%x, % x: byte %d is %d or %d", seed, b, i, c, d)
					}
					seen[h] = byte(c)
				}
			}
		}
	}
}

// P2.3: hashes from different seeds differ, even if the seeds differ in one bit.
func TestDifferentSeeds(t *testing.T) {
	l := seeds()
	for k := range 64 {
		l = append(l, 1<<k, sum.Basis^1<<k)
	}
	for _, b := range byteStrings()[:100] {
		from := map[uint64]uint64{}
		for _, seed := range l {
			h := sum.From(seed, b)
			if other, ok := from[h]; ok && other != seed {
				t.Fatalf("% x: from %x and from %x", b, seed, other)
			}
			from[h] = seed
		}
	}
}

// P2, P3: hashing does not modify its argument, and leads to the same again.
func TestHashArgumentsStay(t *testing.T) {
	for _, b := range byteStrings() {
		before := bytes.Clone(b)
		if sum.Of(b) != sum.Of(b) || sum.From(7, b) != sum.From(7, b) {
			t.Errorf("% x: two hashes", before)
		}
		if !bytes.Equal(b, before) {
			t.Errorf("% x is changed to % x", before, b)
		}
	}
}
