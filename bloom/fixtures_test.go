package bloom_test

import (
	"bytes"
	"fmt"
	"math"
	"math/rand"
	"slices"
	"testing"

	"fenland/api"
	"fenland/bloom"
)

var (
	// sizes are the lengths of valid sketches.
	sizes = []int{1, 2, 4, 8, 16, 32, 64, 128, 256, 512, 1024, 2048, 4096, 8192, 16384, 32768, 65536}
	// otherSizes are lengths that no valid sketch has.
	otherSizes = []int{0, 3, 5, 6, 7, 9, 10, 12, 15, 17, 24, 31, 33, 63, 65, 96, 255, 257, 48 << 8, 32767, 32769, 65535, 65537, 98304, 131071, 131072, 131073, 262144, 1 << 20}
	// otherKs are the numbers of bits of a key that no valid sketch has.
	otherKs = []int{0, -1, 17, -2, -15, -16, 18, 32, 255, 256, 257, 272, 65536, 65537, -255, math.MinInt, math.MinInt + 1, math.MaxInt, math.MaxInt - 1}
)

// ks are the numbers of bits of a key that valid sketches have.
func ks() []int {
	var l []int
	for k := 1; k <= 16; k++ {
		l = append(l, k)
	}
	return l
}

// sketch has the given bytes.
func sketch(k int, b ...byte) api.Bloom { return api.Bloom{K: k, B: b} }

// empty is a sketch of n bytes without keys.
func empty(k, n int) api.Bloom { return api.Bloom{K: k, B: make([]byte, n)} }

// full is a sketch of n bytes with all bits.
func full(k, n int) api.Bloom { return api.Bloom{K: k, B: bytes.Repeat([]byte{255}, n)} }

// anySketch has n bytes of which more or fewer bits are 1.
func anySketch(r *rand.Rand, k, n int) api.Bloom {
	f := empty(k, n)
	r.Read(f.B)
	shape, mask := r.Intn(5), make([]byte, n)
	r.Read(mask)
	for i, x := range mask {
		switch shape {
		case 0:
			f.B[i] &= x
		case 1:
			f.B[i] |= x
		case 2:
			f.B[i] = x & (x << 1) & (x << 2)
		case 3:
			f.B[i] = x | x<<1 | x<<2
		}
	}
	return f
}

// oneByteKeys are all keys of one byte.
func oneByteKeys() [][]byte {
	var l [][]byte
	for n := range 256 {
		l = append(l, []byte{byte(n)})
	}
	return l
}

// someKeys are keys of no byte, of few, and of as many as fill blocks of the digest and more.
func someKeys() [][]byte {
	l := [][]byte{nil, {}, {0}, {0, 0}, {1}, {255}, []byte("a"), []byte("abc"), []byte("reed"), []byte("sedge"), []byte("Marsh harrier \xff\x00é")}
	r := rand.New(rand.NewSource(11))
	for _, n := range []int{2, 3, 7, 8, 9, 31, 32, 33, 55, 62, 63, 64, 65, 127, 128, 129, 200, 1000, 5000} {
		b := make([]byte, n)
		r.Read(b)
		l = append(l, b, make([]byte, n))
	}
	return l
}

// manyKeys are n different keys of different lengths, which differ from those with another seed.
func manyKeys(seed, n int) [][]byte {
	var l [][]byte
	for i := range n {
		l = append(l, fmt.Appendf(nil, "key %d of %d%s", i, seed, bytes.Repeat([]byte{'.'}, i%70)))
	}
	return l
}

// shuffled is a copy of l in any other order.
func shuffled[T any](r *rand.Rand, l []T) []T {
	to := slices.Clone(l)
	r.Shuffle(len(to), func(i, j int) { to[i], to[j] = to[j], to[i] })
	return to
}

// pick returns any element.
func pick[T any](r *rand.Rand, l []T) T { return l[r.Intn(len(l))] }

// copyOf is a copy of a sketch in memory of its own.
func copyOf(f api.Bloom) api.Bloom { return api.Bloom{K: f.K, B: bytes.Clone(f.B)} }

// equal tells whether two sketches are equal, nil and empty slices being interchangeable.
func equal(f, g api.Bloom) bool { return f.K == g.K && bytes.Equal(f.B, g.B) }

// show is a short notation of a sketch, of which only the beginning counts.
func show(f api.Bloom) string {
	return fmt.Sprintf("K %d, %d bytes %v", f.K, len(f.B), f.B[:min(len(f.B), 20)])
}

// showKey is a short notation of a key, of which only the beginning counts.
func showKey(key []byte) string { return fmt.Sprintf("%d bytes %q", len(key), key[:min(len(key), 20)]) }

// with returns a sketch with further keys.
func with(f api.Bloom, keys [][]byte) api.Bloom {
	for _, key := range keys {
		f = bloom.Add(f, key)
	}
	return f
}

// union returns the union of two sketches that have one.
func union(t *testing.T, f, g api.Bloom) api.Bloom {
	t.Helper()
	h, err := bloom.Union(f, g)
	if err != api.OK {
		t.Fatalf("Union(%s; %s): %v", show(f), show(g), err)
	}
	return h
}

// fold returns a sketch of half the length.
func fold(t *testing.T, f api.Bloom) api.Bloom {
	t.Helper()
	g, err := bloom.Fold(f)
	if err != api.OK {
		t.Fatalf("Fold(%s): %v", show(f), err)
	}
	return g
}

// newFails checks that New returns an error and the zero sketch.
func newFails(t *testing.T, keys, k int, want api.Errno) {
	t.Helper()
	if f, err := bloom.New(keys, k); err != want || !equal(f, api.Bloom{}) {
		t.Errorf("New(%d, %d) = %s, %v instead of %v", keys, k, show(f), err, want)
	}
}

// unites checks the union of two sketches.
func unites(t *testing.T, f, g, want api.Bloom) {
	t.Helper()
	if h, err := bloom.Union(f, g); err != api.OK || !equal(h, want) {
		t.Errorf("Union(%s; %s) = %s, %v instead of %s", show(f), show(g), show(h), err, show(want))
	}
}

// unionFails checks that Union returns ErrArg and the zero sketch.
func unionFails(t *testing.T, f, g api.Bloom) {
	t.Helper()
	if h, err := bloom.Union(f, g); err != api.ErrArg || !equal(h, api.Bloom{}) {
		t.Errorf("Union(%s; %s) = %s, %v", show(f), show(g), show(h), err)
	}
}

// folds checks the half of a sketch.
func folds(t *testing.T, f, want api.Bloom) {
	t.Helper()
	if g, err := bloom.Fold(f); err != api.OK || !equal(g, want) {
		t.Errorf("Fold(%s) = %s, %v instead of %s", show(f), show(g), err, show(want))
	}
}

// foldFails checks that Fold returns ErrArg and the zero sketch.
func foldFails(t *testing.T, f api.Bloom) {
	t.Helper()
	if g, err := bloom.Fold(f); err != api.ErrArg || !equal(g, api.Bloom{}) {
		t.Errorf("Fold(%s) = %s, %v", show(f), show(g), err)
	}
}

// agrees checks Add and Has of a sketch, which need not be valid, and a key against the oracle.
func agrees(t *testing.T, f api.Bloom, key []byte) {
	t.Helper()
	if g, want := bloom.Add(f, key), wantAdd(f, key); !equal(g, want) {
		t.Errorf("Add(%s; %s) = %s instead of %s", show(f), showKey(key), show(g), show(want))
	}
	if is, want := bloom.Has(f, key), wantHas(f, key); is != want {
		t.Errorf("Has(%s; %s) = %v", show(f), showKey(key), is)
	}
}
