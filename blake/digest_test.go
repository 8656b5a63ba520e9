package blake

import (
	"bytes"
	"math/rand"
	"testing"

	"fenland/api"
)

// lengths are those of byte strings around the ends of blocks, with none and with many blocks before.
func lengths() []int {
	l := []int{0, 1, 2, 3, 4, 5, 31, 32, 33}
	for _, end := range []int{64, 128, 192, 256, 1024, 4096} {
		l = append(l, end-2, end-1, end, end+1, end+2)
	}
	return l
}

// contents are byte strings of these lengths: zero bytes, which differ from padding in the counter alone, bytes with all
// bits set, and bytes without a plan.
func contents() [][]byte {
	var l [][]byte
	r := rand.New(rand.NewSource(1))
	for _, n := range lengths() {
		b := make([]byte, n)
		r.Read(b)
		l = append(l, b, make([]byte, n), bytes.Repeat([]byte{255}, n))
	}
	return l
}

// P2.1: B1 without a key.
func TestSum(t *testing.T) {
	for _, b := range contents() {
		if d := Sum(b); d != wantDigest(nil, b) {
			t.Errorf("Sum of %d bytes: %x", len(b), d)
		}
	}
	for n := range 1000 {
		if b := message(n); Sum(b) != wantDigest(nil, b) {
			t.Errorf("Sum of %d bytes: %x", n, Sum(b))
		}
	}
}

// P2.1: B1 with a key of any length that counts.
func TestKeyed(t *testing.T) {
	for k := range 33 {
		for _, key := range [][]byte{secret(k), make([]byte, k)} {
			for _, b := range contents() {
				if d := Keyed(key, b); d != wantDigest(key, b) {
					t.Errorf("a key of %d bytes, and %d: %x", k, len(b), d)
				}
			}
		}
	}
}

// P2.1: B1 for keys and byte strings without a plan.
func TestKeyedAtRandom(t *testing.T) {
	r := rand.New(rand.NewSource(2))
	for range 3000 {
		key, b := make([]byte, r.Intn(100)), make([]byte, r.Intn(400))
		r.Read(key)
		r.Read(b)
		if d := Keyed(key, b); d != wantDigest(key[:min(len(key), 32)], b) {
			t.Errorf("the key %x, and %x: %x", key, b, d)
		}
	}
}

// P2.1: an empty byte string with a key is the block of the key alone, with the flag.
func TestKeyWithoutBytes(t *testing.T) {
	for k := 1; k <= 32; k++ {
		h := iv
		h[0] ^= 0x01010020 + 256*uint32(k)
		want := digest(compress(h, words(secret(k)), 64, true))
		if Keyed(secret(k), nil) != want || Keyed(secret(k), []byte{}) != want {
			t.Errorf("a key of %d bytes, and none", k)
		}
	}
}

// P2.1: a length that is a multiple of 64 has no further block, and no bytes are one block.
func TestNoFurtherBlock(t *testing.T) {
	h := iv
	h[0] ^= 0x01010020
	b := message(128)
	if Sum(nil) != digest(compress(h, [16]uint32{}, 0, true)) {
		t.Error("no bytes are not one block")
	}
	if Sum(b[:64]) != digest(compress(h, words(b[:64]), 64, true)) {
		t.Error("64 bytes are not one block")
	}
	if Sum(b) != digest(compress(compress(h, words(b[:64]), 64, false), words(b[64:]), 128, true)) {
		t.Error("128 bytes are not two blocks")
	}
}

// P2.2: an empty key is no key.
func TestEmptyKey(t *testing.T) {
	for _, b := range contents() {
		for _, key := range [][]byte{nil, {}, secret(40)[:0]} {
			if Keyed(key, b) != Sum(b) {
				t.Errorf("an empty key, and %d bytes", len(b))
			}
		}
	}
}

// P2.2: whatever follows the first 32 bytes of a key, the digest is the same; none of the first 32 is ignored.
func TestLongKeys(t *testing.T) {
	r := rand.New(rand.NewSource(3))
	first := secret(32)
	for _, b := range [][]byte{nil, {0}, message(63), message(64), message(65), message(200)} {
		want := Keyed(first, b)
		for _, n := range []int{1, 2, 31, 32, 33, 64, 96, 224, 1000} {
			more := make([]byte, n)
			for _, key := range [][]byte{append(bytes.Clone(first), more...), append(bytes.Clone(first), first...)} {
				if Keyed(key, b) != want {
					t.Errorf("a key of %d bytes, and %d", len(key), len(b))
				}
			}
			r.Read(more)
			key := append(bytes.Clone(first), more...)
			if Keyed(key, b) != want {
				t.Errorf("a key of %d bytes, and %d", len(key), len(b))
			}
			key[31]++
			if Keyed(key, b) == want {
				t.Errorf("the last of 32 bytes is ignored, for %d bytes", len(b))
			}
		}
	}
}

// P2.1: B2, for leaves.
func TestLeaf(t *testing.T) {
	for _, b := range contents() {
		if d := Leaf(b); d != wantDigest(nil, append([]byte{0}, b...)) {
			t.Errorf("Leaf of %d bytes: %x", len(b), d)
		}
	}
}

// P2.1: B2, for pairs: the order of the digests, and what follows them.
func TestPair(t *testing.T) {
	ones := api.Digest(bytes.Repeat([]byte{255}, 32))
	below := []api.Digest{{}, ones, Sum(nil), Leaf(nil), Sum([]byte("abc")), Leaf([]byte("abc"))}
	for _, left := range below {
		for _, right := range below {
			for _, b := range contents() {
				all := append([]byte{1}, left[:]...)
				all = append(append(all, right[:]...), b...)
				if d := Pair(left, right, b); d != wantDigest(nil, all) {
					t.Errorf("Pair(%x, %x) with %d bytes: %x", left, right, len(b), d)
				}
			}
		}
	}
}
