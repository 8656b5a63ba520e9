package bloom_test

import (
	"math/rand"
	"slices"
	"testing"

	"fenland/api"
)

// P11.1, F3: Union, by hand.
func TestUnion(t *testing.T) {
	unites(t, sketch(1, 0), sketch(1, 0), sketch(1, 0))
	unites(t, sketch(16, 1), sketch(16, 128), sketch(16, 129))
	unites(t, sketch(2, 1, 2), sketch(2, 3, 4), sketch(2, 3, 6))
	unites(t, sketch(2, 255, 0), sketch(2, 0, 255), sketch(2, 255, 255))
	unites(t, sketch(9, 0x55, 0xAA, 0xF0, 1), sketch(9, 0xAA, 0xAA, 0x3C, 0), sketch(9, 255, 0xAA, 0xFC, 1))
	unites(t, sketch(1, 0, 0, 0, 0, 0, 0, 0, 0), sketch(1, 1, 2, 3, 4, 5, 6, 7, 8), sketch(1, 1, 2, 3, 4, 5, 6, 7, 8))
	first, last := empty(3, 65536), empty(3, 65536)
	first.B[0], last.B[65535] = 4, 128
	both := copyOf(first)
	both.B[65535] = 128
	unites(t, first, last, both)
	unites(t, last, first, both)
}

// P11.1, F3: any two sketches of each length and K.
func TestUnionOfAny(t *testing.T) {
	r := rand.New(rand.NewSource(4))
	for _, n := range sizes {
		for _, k := range ks() {
			if n > 4096 && k%5 != 1 {
				continue
			}
			f, g := anySketch(r, k, n), anySketch(r, k, n)
			unites(t, f, g, wantUnion(f, g))
			unites(t, f, f, f)
			unites(t, f, empty(k, n), f)
			unites(t, empty(k, n), f, f)
			unites(t, f, full(k, n), full(k, n))
			unites(t, full(k, n), f, full(k, n))
		}
	}
}

// P11.1, F3: all bytes with all bytes.
func TestUnionOfBytes(t *testing.T) {
	for a := range 256 {
		for b := range 256 {
			f, g := sketch(1, byte(a), byte(b)), sketch(1, byte(b), byte(a))
			unites(t, f, g, wantUnion(f, g))
		}
	}
}

// P11.1, F3: sketches of different K, of different lengths, and of both.
func TestUnionOfUnlike(t *testing.T) {
	for _, n := range sizes {
		for _, o := range sizes {
			for _, k := range []int{1, 2, 8, 15, 16} {
				for _, l := range []int{1, 2, 8, 15, 16} {
					if n != o || k != l {
						unionFails(t, empty(k, n), empty(l, o))
						unionFails(t, full(k, n), empty(l, o))
					}
				}
			}
		}
	}
	unionFails(t, sketch(1, 1, 2), sketch(2, 1, 2))
	unionFails(t, sketch(1, 1, 2), sketch(1, 1))
	unionFails(t, sketch(1, 1), sketch(1, 1, 2))
	unionFails(t, sketch(3, 1, 2), sketch(2, 1))
}

// P11.1, F3: an a that is not valid, a b that is not valid, and two that are not valid, in the same way or another.
func TestUnionOfInvalid(t *testing.T) {
	r := rand.New(rand.NewSource(5))
	all := invalid()
	for _, f := range all {
		unionFails(t, f, f)
		unionFails(t, f, copyOf(f))
		unionFails(t, f, empty(f.K, len(f.B)))
		for _, g := range []api.Bloom{sketch(1, 1), sketch(16, 1, 2), full(2, 4), empty(1, 65536), pick(r, all)} {
			unionFails(t, f, g)
			unionFails(t, g, f)
		}
		// One of them differs from a valid sketch in nothing else.
		for _, n := range sizes {
			unionFails(t, f, empty(max(1, min(16, f.K)), n))
			unionFails(t, empty(max(1, min(16, f.K)), n), f)
		}
		for _, k := range ks() {
			unionFails(t, empty(k, max(1, len(f.B))), api.Bloom{K: f.K, B: f.B})
		}
	}
}

// P11.1, F4: Fold, by hand.
func TestFold(t *testing.T) {
	folds(t, sketch(1, 0, 0), sketch(1, 0))
	folds(t, sketch(1, 1, 2), sketch(1, 3))
	folds(t, sketch(16, 0x81, 0x18), sketch(16, 0x99))
	folds(t, sketch(7, 0xFF, 0), sketch(7, 0xFF))
	folds(t, sketch(7, 0, 0xFF), sketch(7, 0xFF))
	folds(t, sketch(2, 1, 2, 4, 8), sketch(2, 5, 10))
	folds(t, sketch(2, 1, 0, 1, 0), sketch(2, 1, 0))
	folds(t, sketch(3, 1, 2, 4, 8, 16, 32, 64, 128), sketch(3, 17, 34, 68, 136))
	f, g := empty(5, 65536), empty(5, 32768)
	f.B[0], f.B[32767], f.B[32768], f.B[65535] = 1, 2, 4, 8
	g.B[0], g.B[32767] = 5, 10
	folds(t, f, g)
}

// P11.1, F4: any sketches of each length and K, and sketches with one bit.
func TestFoldOfAny(t *testing.T) {
	r := rand.New(rand.NewSource(6))
	for _, n := range sizes[1:] {
		for _, k := range ks() {
			f := anySketch(r, k, n)
			folds(t, f, wantFold(f))
			folds(t, empty(k, n), empty(k, n/2))
			folds(t, full(k, n), full(k, n/2))
		}
		for j := 0; j < 8*n; j += max(1, n/64) {
			folds(t, set(empty(1, n), j), set(empty(1, n/2), j%(4*n)))
			folds(t, set(set(empty(4, n), j), (j+4*n)%(8*n)), set(empty(4, n/2), j%(4*n)))
		}
	}
}

// P11.1, F4: sketches of one byte, and sketches that are not valid.
func TestFoldErrors(t *testing.T) {
	for _, k := range slices.Concat(ks(), otherKs) {
		for b := range 256 {
			foldFails(t, sketch(k, byte(b)))
		}
	}
	for _, f := range invalid() {
		foldFails(t, f)
	}
}
