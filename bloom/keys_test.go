package bloom_test

import (
	"math/big"
	"math/rand"
	"slices"
	"testing"

	"fenland/api"
	"fenland/bloom"
)

// P11.1, F2: keys of each length, in sketches of each length and K, of which no bit, each or any is 1 before.
func TestAddAndHas(t *testing.T) {
	r := rand.New(rand.NewSource(1))
	for _, n := range sizes {
		for _, k := range ks() {
			for i, key := range someKeys() {
				// In long sketches, each K has some of the keys.
				if n <= 64 || i%16 == k-1 {
					agrees(t, empty(k, n), key)
					agrees(t, full(k, n), key)
					agrees(t, anySketch(r, k, n), key)
				}
			}
		}
	}
}

// P11.1, F2: each key of one byte.
func TestKeysOfOneByte(t *testing.T) {
	r := rand.New(rand.NewSource(2))
	for _, key := range oneByteKeys() {
		for _, n := range sizes[:8] {
			for _, k := range []int{1, 2, 3, 8, 9, 16} {
				agrees(t, empty(k, n), key)
				agrees(t, anySketch(r, k, n), key)
			}
		}
		agrees(t, empty(16, 65536), key)
	}
}

// P11.1, F2: Add sets the bits of a key, each of them and no other; Has needs each of them and no other.
func TestBitsOfKeys(t *testing.T) {
	keys := slices.Concat(someKeys(), oneByteKeys()[:40])
	for _, n := range []int{1, 2, 4, 16} {
		for _, k := range []int{1, 2, 5, 7, 8, 9, 16} {
			for _, key := range keys {
				bits := wantBits(key, empty(k, n))
				added := bloom.Add(empty(k, n), key)
				for j := range 8 * n {
					is := slices.Contains(bits, j)
					if bit(added, j) != is {
						t.Fatalf("Add(K %d, %d bytes; %s): bit %d is %v", k, n, showKey(key), j, !is)
					}
					if bloom.Has(without(full(k, n), j), key) == is {
						t.Fatalf("Has(K %d, %d bytes; %s) without bit %d is %v", k, n, showKey(key), j, is)
					}
					if bloom.Has(without(added, j), key) == is {
						t.Fatalf("Has(K %d, %d bytes; %s) with the bits of the key but %d is %v", k, n, showKey(key), j, is)
					}
				}
			}
		}
	}
}

// P11.1, F2: in the longest sketches, Has needs the first bit of a key, the last one, and those between, and not the bits
// beside these.
func TestBitsOfLongSketches(t *testing.T) {
	for _, n := range []int{32768, 65536} {
		for _, k := range []int{1, 2, 16} {
			for _, key := range append(someKeys()[2:9], someKeys()[30]) {
				bits := wantBits(key, empty(k, n))
				all := set(empty(k, n), bits...)
				if !bloom.Has(all, key) {
					t.Errorf("Has(%s; %s) is false", show(all), showKey(key))
				}
				for i, j := range bits {
					if bloom.Has(without(full(k, n), j), key) || bloom.Has(without(all, j), key) {
						t.Errorf("K %d, %d bytes: %s is found without bit %d of it", k, n, showKey(key), i)
					}
					m := 8 * n
					beside := slices.DeleteFunc([]int{(j + 1) % m, (j + m - 1) % m, (j + m/2) % m}, func(j int) bool { return slices.Contains(bits, j) })
					if !bloom.Has(without(full(k, n), beside...), key) {
						t.Errorf("K %d, %d bytes: %s needs bits beside bit %d of it", k, n, showKey(key), i)
					}
				}
			}
		}
	}
}

// P11.1, F2: h2 is even or odd before 1 is added, and the sums leave the range of 64 bits or do not; there are keys of
// each kind.
func TestKindsOfKeys(t *testing.T) {
	limit := new(big.Int).Lsh(big.NewInt(1), 64)
	seen := map[[3]bool]int{}
	for _, key := range slices.Concat(oneByteKeys(), manyKeys(1, 300)) {
		sums := wantSums(key, 16)
		kind := [3]bool{wantStep(key).Bit(0) == 0, sums[1].Cmp(limit) >= 0, sums[15].Cmp(limit) >= 0}
		seen[kind]++
		for _, n := range []int{1, 2, 4, 1024} {
			for _, k := range []int{1, 2, 16} {
				agrees(t, empty(k, n), key)
			}
		}
		if seen[kind] <= 10 {
			agrees(t, empty(16, 65536), key)
		}
	}
	for _, even := range []bool{false, true} {
		for _, leaves := range [][2]bool{{false, false}, {false, true}, {true, true}} {
			if seen[[3]bool{even, leaves[0], leaves[1]}] < 5 {
				t.Errorf("too few keys with an even h2: %v, whose second and last sums leave the range: %v", even, leaves)
			}
		}
	}
}

// P11.1, F2: h2 is odd, so that the bits of a key differ where there are enough: only in a sketch of one byte two bits of
// a key can be the same, and with more than eight of them they are.
func TestSameBits(t *testing.T) {
	for _, key := range slices.Concat(oneByteKeys(), someKeys()) {
		for _, n := range []int{1, 2, 4, 8} {
			for _, k := range ks() {
				f := bloom.Add(empty(k, n), key)
				if ones(f) != min(k, 8*n) {
					t.Errorf("Add(K %d, %d bytes; %s) sets %d bits", k, n, showKey(key), ones(f))
				}
				if bits := wantBits(key, f); n == 1 && k > 8 && bits[0] != bits[8] {
					t.Errorf("%s has no two bits that are the same", showKey(key))
				}
				agrees(t, f, key)
			}
		}
	}
}

// P11.1, F2: a key that is added twice, and again after others.
func TestKeysAddedTwice(t *testing.T) {
	for _, n := range []int{1, 2, 4, 64, 65536} {
		for _, k := range []int{1, 2, 16} {
			for i, key := range someKeys()[:12] {
				once := bloom.Add(empty(k, n), key)
				if twice := bloom.Add(once, key); !equal(twice, once) {
					t.Errorf("K %d, %d bytes: %s added twice: %s, and once: %s", k, n, showKey(key), show(twice), show(once))
				}
				more := with(once, manyKeys(i, 3))
				if again := bloom.Add(more, key); !equal(again, more) {
					t.Errorf("K %d, %d bytes: %s added again: %s instead of %s", k, n, showKey(key), show(again), show(more))
				}
			}
		}
	}
}

// P11.1, F2: keys that differ little have bits of their own.
func TestSimilarKeys(t *testing.T) {
	keys := [][]byte{nil, {0}, {0, 0}, {1}, {0, 1}, {1, 0}, make([]byte, 63), make([]byte, 64), make([]byte, 65), []byte("a"), []byte("b"), []byte("A"), []byte("a ")}
	for i, key := range keys {
		f := bloom.Add(empty(16, 65536), key)
		for j, other := range keys {
			if bloom.Has(f, other) != (i == j) {
				t.Errorf("the sketch of %s has %s: %v", showKey(key), showKey(other), i != j)
			}
		}
	}
}

// invalid are sketches that are not valid, because of K, because of the length, and because of both.
func invalid() []api.Bloom {
	r := rand.New(rand.NewSource(3))
	var l []api.Bloom
	for _, n := range otherSizes {
		for _, k := range []int{1, 2, 16} {
			l = append(l, anySketch(r, k, n))
		}
		l = append(l, empty(1, n), full(16, n), anySketch(r, pick(r, otherKs), n))
	}
	for _, k := range otherKs {
		for _, n := range []int{1, 2, 4, 16} {
			l = append(l, anySketch(r, k, n), empty(k, n), full(k, n))
		}
		l = append(l, empty(k, 65536))
	}
	return append(l, api.Bloom{}, api.Bloom{K: 1}, api.Bloom{K: 16, B: []byte{}})
}

// P11.1, F2: Add returns a sketch that is not valid as it is, and Has is true for it.
func TestInvalidSketches(t *testing.T) {
	for _, f := range invalid() {
		if wantValid(f) {
			t.Fatalf("%s is valid", show(f))
		}
		for _, key := range [][]byte{nil, {}, {0}, []byte("reed"), make([]byte, 100)} {
			if g := bloom.Add(f, key); !equal(g, f) {
				t.Errorf("Add(%s; %s) = %s", show(f), showKey(key), show(g))
			}
			if !bloom.Has(f, key) {
				t.Errorf("Has(%s; %s) is false", show(f), showKey(key))
			}
		}
	}
}
