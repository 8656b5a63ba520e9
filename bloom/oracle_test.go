package bloom_test

import (
	"bytes"
	"math/big"
	"slices"

	"fenland/api"
	"fenland/blake"
)

// wantValid tells whether a sketch is valid.
func wantValid(f api.Bloom) bool {
	return slices.Contains(ks(), f.K) && slices.Contains(sizes, len(f.B))
}

// wantNew is what New returns.
func wantNew(keys, k int) (api.Bloom, api.Errno) {
	if keys < 0 || !slices.Contains(ks(), k) {
		return api.Bloom{}, api.ErrArg
	}
	if keys > 32768 {
		return api.Bloom{}, api.ErrBig
	}
	at := slices.IndexFunc(sizes, func(n int) bool { return n >= keys+keys })
	return empty(k, sizes[at]), api.OK
}

// wantNumber is the number that bytes form, the most significant one of which is the last.
func wantNumber(b []byte) *big.Int {
	backward := bytes.Clone(b)
	slices.Reverse(backward)
	return new(big.Int).SetBytes(backward)
}

// wantStart is h1 of a key.
func wantStart(key []byte) *big.Int {
	d := blake.Leaf(key)
	return wantNumber(d[0:8])
}

// wantStep is h2 of a key before 1 is added.
func wantStep(key []byte) *big.Int {
	d := blake.Leaf(key)
	return wantNumber(d[8:16])
}

// wantSums are h1 + i * h2 of a key for i = 0 to k - 1, whose range has no end.
func wantSums(key []byte, k int) []*big.Int {
	h1, h2 := wantStart(key), wantStep(key)
	if h2.Bit(0) == 0 {
		h2.Add(h2, big.NewInt(1))
	}
	var l []*big.Int
	for i := range k {
		x := new(big.Int).Mul(big.NewInt(int64(i)), h2)
		l = append(l, x.Add(x, h1))
	}
	return l
}

// wantBits are the bits of a key in a valid sketch, in order.
func wantBits(key []byte, f api.Bloom) []int {
	var l []int
	for _, x := range wantSums(key, f.K) {
		l = append(l, int(new(big.Int).Mod(x, big.NewInt(8*int64(len(f.B)))).Int64()))
	}
	return l
}

// value is the value of a byte of which one bit is 1, by the number of this bit in a sketch.
func value(j int) byte { return []byte{1, 2, 4, 8, 16, 32, 64, 128}[j%8] }

// bit tells whether a bit is 1.
func bit(f api.Bloom, j int) bool { return f.B[j/8]/value(j)%2 == 1 }

// set is a copy of a sketch in which some bits are 1.
func set(f api.Bloom, bits ...int) api.Bloom {
	f = copyOf(f)
	for _, j := range bits {
		if !bit(f, j) {
			f.B[j/8] += value(j)
		}
	}
	return f
}

// without is a copy of a sketch in which some bits are 0.
func without(f api.Bloom, bits ...int) api.Bloom {
	f = copyOf(f)
	for _, j := range bits {
		if bit(f, j) {
			f.B[j/8] -= value(j)
		}
	}
	return f
}

// ones is the number of bits that are 1.
func ones(f api.Bloom) int {
	n := 0
	for j := range 8 * len(f.B) {
		if bit(f, j) {
			n++
		}
	}
	return n
}

// wantAdd is what Add returns.
func wantAdd(f api.Bloom, key []byte) api.Bloom {
	if !wantValid(f) {
		return copyOf(f)
	}
	return set(f, wantBits(key, f)...)
}

// wantSketch is the sketch of n bytes of some keys.
func wantSketch(k, n int, keys [][]byte) api.Bloom {
	f := empty(k, n)
	var bits []int
	for _, key := range keys {
		bits = append(bits, wantBits(key, f)...)
	}
	return set(f, bits...)
}

// wantHas is what Has returns.
func wantHas(f api.Bloom, key []byte) bool {
	return !wantValid(f) || !slices.ContainsFunc(wantBits(key, f), func(j int) bool { return !bit(f, j) })
}

// wantUnion is the union of two sketches that have one.
func wantUnion(f, g api.Bloom) api.Bloom {
	h := empty(f.K, len(f.B))
	var bits []int
	for j := range 8 * len(h.B) {
		if bit(f, j) || bit(g, j) {
			bits = append(bits, j)
		}
	}
	return set(h, bits...)
}

// wantFold is the half of a sketch that has one.
func wantFold(f api.Bloom) api.Bloom {
	g, m := empty(f.K, len(f.B)/2), 8*len(f.B)
	var bits []int
	for j := range m / 2 {
		if bit(f, j) || bit(f, j+m/2) {
			bits = append(bits, j)
		}
	}
	return set(g, bits...)
}
