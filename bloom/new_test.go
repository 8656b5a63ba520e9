package bloom_test

import (
	"math"
	"slices"
	"testing"

	"fenland/api"
	"fenland/bloom"
)

// isNew checks New against the oracle.
func isNew(t *testing.T, keys, k int) {
	t.Helper()
	want, wantErr := wantNew(keys, k)
	if f, err := bloom.New(keys, k); err != wantErr || !equal(f, want) {
		t.Errorf("New(%d, %d) = %s, %v instead of %s, %v", keys, k, show(f), err, show(want), wantErr)
	}
}

// P11.1, F1: the lengths of sketches, by hand.
func TestSizes(t *testing.T) {
	for keys, want := range map[int]int{
		0: 1, 1: 2, 2: 4, 3: 8, 4: 8, 5: 16, 6: 16, 7: 16, 8: 16, 9: 32, 15: 32, 16: 32, 17: 64, 31: 64, 32: 64, 33: 128, 63: 128, 64: 128,
		65: 256, 127: 256, 128: 256, 129: 512, 255: 512, 256: 512, 257: 1024, 511: 1024, 512: 1024, 513: 2048, 1000: 2048, 1023: 2048,
		1024: 2048, 1025: 4096, 2047: 4096, 2048: 4096, 2049: 8192, 4095: 8192, 4096: 8192, 4097: 16384, 8191: 16384, 8192: 16384,
		8193: 32768, 16383: 32768, 16384: 32768, 16385: 65536, 32767: 65536, 32768: 65536,
	} {
		for _, k := range ks() {
			if f, err := bloom.New(keys, k); err != api.OK || !equal(f, empty(k, want)) {
				t.Errorf("New(%d, %d) = %s, %v instead of %d bytes", keys, k, show(f), err, want)
			}
		}
	}
}

// P11.1, F1: each number of keys that there may be, and the first ones that are too many or too few.
func TestNumbersOfKeys(t *testing.T) {
	for keys := -300; keys <= 33100; keys++ {
		isNew(t, keys, 1+(keys+300)%16)
	}
}

// edgesOfKeys are the powers of two, the numbers beside them and below 0, and those at which a sketch becomes longer or
// has no more room.
func edgesOfKeys() []int {
	l := []int{-1, 0, 1, 2, 3, 4, 5, 16384, 16385, 32767, 32768, 32769, math.MinInt, math.MinInt + 1, math.MaxInt - 1, math.MaxInt}
	for n := 1; n > 0; n *= 2 {
		l = append(l, n-1, n, n+1, -n, -n-1, -n+1, n/2*3, n/2*3+1)
	}
	return l
}

// P11.1, F1: all edges of the number of keys with all edges of k, so that each two errors meet.
func TestEdgesOfNew(t *testing.T) {
	for _, keys := range edgesOfKeys() {
		for _, k := range slices.Concat(otherKs, ks()) {
			isNew(t, keys, k)
		}
	}
}

// P11.1, F1: the errors, and which of two comes first, by hand.
func TestErrorsOfNew(t *testing.T) {
	for _, keys := range []int{-1, -2, -32768, -32769, math.MinInt, math.MinInt + 1} {
		for _, k := range []int{1, 2, 15, 16, 0, -1, 17, math.MinInt, math.MaxInt} {
			newFails(t, keys, k, api.ErrArg)
		}
	}
	for _, k := range []int{0, -1, 17, 18, math.MinInt, math.MaxInt} {
		for _, keys := range []int{-1, 0, 1, 5, 32768, 32769, 65536, math.MaxInt} {
			newFails(t, keys, k, api.ErrArg)
		}
	}
	for _, keys := range []int{32769, 32770, 65535, 65536, 65537, 1 << 30, math.MaxInt / 2, math.MaxInt/2 + 1, math.MaxInt/2 + 2, math.MaxInt} {
		for _, k := range []int{1, 2, 15, 16} {
			newFails(t, keys, k, api.ErrBig)
		}
	}
}

// P11.1: the section 'Examples', and the examples in F1 to F4.
func TestExamples(t *testing.T) {
	for _, x := range [][3]int{{0, 1, 1}, {1, 1, 2}, {5, 3, 16}, {32768, 16, 65536}} {
		if f, err := bloom.New(x[0], x[1]); err != api.OK || f.K != x[1] || len(f.B) != x[2] {
			t.Errorf("New(%d, %d) = %s, %v", x[0], x[1], show(f), err)
		}
	}
	newFails(t, -1, 1, api.ErrArg)
	newFails(t, 1, 17, api.ErrArg)
	newFails(t, 32769, 1, api.ErrBig)
	folds(t, sketch(1, 1, 0, 4, 0), sketch(1, 5, 0))
	foldFails(t, sketch(1, 1))
	unites(t, sketch(1, 1, 2), sketch(1, 4, 2), sketch(1, 5, 2))
	unionFails(t, sketch(1, 1, 2), sketch(2, 1, 2))
	f := sketch(3, 1, 2, 3, 4)
	unites(t, f, f, f)
	for _, key := range someKeys() {
		if bloom.Has(empty(1, 1), key) || bloom.Has(empty(16, 65536), key) {
			t.Errorf("an empty sketch has %s", showKey(key))
		}
		if !bloom.Has(sketch(0, 0), key) || !bloom.Has(sketch(0), key) {
			t.Errorf("a sketch with K 0 does not have %s", showKey(key))
		}
		if f := bloom.Add(empty(3, 16), key); !bloom.Has(f, key) {
			t.Errorf("after Add, %s does not have %s", show(f), showKey(key))
		}
	}
}
