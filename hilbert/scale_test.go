package hilbert_test

import (
	"math"
	"math/rand"
	"slices"
	"testing"

	"fenland/hilbert"
)

// scales checks Scale.
func scales(t *testing.T, v, lo, hi int64, order int, want uint32) {
	t.Helper()
	if x := hilbert.Scale(v, lo, hi, order); x != want {
		t.Errorf("Scale(%d, %d, %d, %d) = %d instead of %d", v, lo, hi, order, x, want)
	}
}

// P12.1, H3: by hand.
func TestScale(t *testing.T) {
	for _, x := range []struct {
		v, lo, hi int64
		order     int
		want      uint32
	}{
		// Ten numbers: at lo, at hi, and where the quotient grows.
		{0, 0, 9, 1, 0}, {4, 0, 9, 1, 0}, {5, 0, 9, 1, 1}, {9, 0, 9, 1, 1},
		{2, 0, 9, 2, 0}, {3, 0, 9, 2, 1}, {4, 0, 9, 2, 1}, {5, 0, 9, 2, 2}, {7, 0, 9, 2, 2}, {8, 0, 9, 2, 3}, {9, 0, 9, 2, 3},
		{9, 0, 9, 3, 7}, {1, 0, 9, 3, 0}, {2, 0, 9, 3, 1}, {9, 0, 9, 16, 58982},
		// Numbers below 0 and above.
		{-5, -5, 4, 1, 0}, {-1, -5, 4, 1, 0}, {0, -5, 4, 1, 1}, {4, -5, 4, 1, 1}, {-1, -2, -1, 1, 1}, {-2, -2, -1, 1, 0},
		// One number, at both ends of int64 too.
		{0, 0, 0, 1, 0}, {7, 7, 7, 16, 0}, {-5, -5, -5, 4, 0}, {least, least, least, 16, 0}, {greatest, greatest, greatest, 16, 0},
		// Fewer than 2^order numbers.
		{0, 0, 1, 16, 0}, {1, 0, 1, 16, 32768}, {1, 0, 2, 2, 1}, {2, 0, 2, 2, 2}, {2, 0, 2, 16, 43690}, {65534, 0, 65534, 16, 65534},
		{1, 0, 65534, 16, 1}, {32767, 0, 65534, 16, 32767}, {32768, 0, 65534, 16, 32768},
		// Just as many, and one more.
		{0, 0, 1, 1, 0}, {1, 0, 1, 1, 1}, {3, 0, 3, 2, 3}, {12345, 0, 65535, 16, 12345}, {65535, 0, 65535, 16, 65535},
		{1, 0, 65536, 16, 0}, {2, 0, 65536, 16, 1}, {65536, 0, 65536, 16, 65535},
		// Below lo and above hi.
		{-1, 0, 9, 2, 0}, {10, 0, 9, 2, 3}, {least, 0, 9, 16, 0}, {greatest, 0, 9, 16, 65535}, {least, -1, 9, 1, 0}, {greatest, 0, 9, 1, 1},
		{least, least + 1, greatest, 16, 0}, {greatest, least, greatest - 1, 16, 65535}, {1, 0, 0, 16, 65535}, {-1, 0, 0, 16, 0},
		// lo above hi.
		{5, 9, 0, 2, 0}, {9, 9, 0, 2, 0}, {0, 9, 0, 2, 0}, {10, 9, 0, 2, 0}, {-1, 9, 0, 2, 0}, {1, 1, 0, 16, 0}, {0, greatest, least, 16, 0},
		{greatest, greatest, least, 16, 0}, {least, greatest, least, 16, 0},
		// 2^64 numbers.
		{least, least, greatest, 16, 0}, {greatest, least, greatest, 16, 65535}, {0, least, greatest, 16, 32768}, {-1, least, greatest, 16, 32767},
		{-1, least, greatest, 1, 0}, {0, least, greatest, 1, 1}, {greatest, least, greatest, 1, 1}, {1 << 62, least, greatest, 2, 3},
		{1<<62 - 1, least, greatest, 2, 2}, {least + 1<<48, least, greatest, 16, 1}, {least + 1<<48 - 1, least, greatest, 16, 0},
		// Products that leave the range of 64 bits, and differences that leave that of int64.
		{1 << 47, 0, greatest, 16, 1}, {1<<47 - 1, 0, greatest, 16, 0}, {greatest, 0, greatest, 16, 65535}, {1 << 62, 0, greatest, 16, 32768},
		{1<<62 - 1, 0, greatest, 16, 32767}, {greatest - 1, least, greatest - 1, 16, 65535}, {0, least, greatest - 1, 16, 32768},
		{-1, least, greatest - 1, 16, 32767}, {0, least + 1, greatest, 16, 32767}, {1, least + 1, greatest, 16, 32768}, {1 << 62, least, 1 << 62, 1, 1},
	} {
		scales(t, x.v, x.lo, x.hi, x.order, x.want)
		if want := wantScale(x.v, x.lo, x.hi, x.order); want != x.want {
			t.Errorf("the oracle has %d for %v", want, x)
		}
	}
}

// edgesOfInt are powers of two, the numbers beside them, and these below 0.
func edgesOfInt() []int64 {
	l := []int64{0, 3, 9, 10, 100, -3, -10, least, least + 1, greatest, greatest - 1}
	for _, k := range []int{0, 1, 2, 8, 15, 16, 17, 31, 32, 46, 47, 48, 49, 61, 62} {
		n := int64(1) << k
		l = append(l, n-1, n, n+1, -n-1, -n, -n+1)
	}
	slices.Sort(l)
	return slices.Compact(l)
}

// P12.1, H3: v, lo and hi at all edges, for each order.
func TestEdgesOfScale(t *testing.T) {
	l := edgesOfInt()
	for _, order := range []int{1, 2, 8, 15, 16} {
		for _, lo := range l {
			for _, hi := range l {
				for _, v := range l[order%2:] {
					scales(t, v, lo, hi, order, wantScale(v, lo, hi, order))
				}
			}
		}
	}
	for _, order := range orders() {
		for _, lo := range l {
			for _, v := range []int64{least, lo - 1, lo, lo + 1, 0, greatest} {
				for _, hi := range []int64{lo, lo + 1, lo + int64(side(order)) - 1, lo + int64(side(order)), greatest} {
					scales(t, v, lo, hi, order, wantScale(v, lo, hi, order))
				}
			}
		}
	}
}

// P12.1, H3: any numbers, in ranges of all lengths.
func TestScaleOfAny(t *testing.T) {
	r := rand.New(rand.NewSource(6))
	for range 300000 {
		lo, hi := int64(r.Uint64())>>r.Intn(64), int64(r.Uint64())>>r.Intn(64)
		if r.Intn(3) == 0 {
			hi = lo + r.Int63()>>r.Intn(64)
		}
		v := int64(r.Uint64()) >> r.Intn(64)
		if length := uint64(hi - lo); r.Intn(2) == 0 && length != math.MaxUint64 {
			v = lo + int64(r.Uint64()%(length+1))
		}
		order := 1 + r.Intn(16)
		scales(t, v, lo, hi, order, wantScale(v, lo, hi, order))
	}
}

// P12.1, H3: all numbers of short ranges: as many as there are coordinates have one each, in order, and no coordinate is
// too great.
func TestShortRanges(t *testing.T) {
	for _, order := range []int{1, 2, 3, 4} {
		for _, lo := range []int64{0, 1, -1, -7, 1000, least, least + 3, greatest - 100} {
			for length := int64(1); length < 100; length++ {
				for n := range length {
					want := uint32(n * int64(side(order)) / length)
					scales(t, lo+n, lo, lo+length-1, order, want)
				}
			}
		}
	}
	for _, order := range orders() {
		for _, lo := range []int64{0, -3, least, greatest - 65535} {
			for n := int64(0); n < int64(side(order)); n += 1 + n/50 {
				scales(t, lo+n, lo, lo+int64(side(order))-1, order, uint32(n))
			}
		}
	}
}

// P12.1, H3: orders that no curve has, the least and the greatest int among them.
func TestScaleOfOtherOrders(t *testing.T) {
	for _, order := range otherOrders {
		for _, v := range []int64{least, -1, 0, 1, 5, 9, 10, greatest} {
			for _, x := range [][2]int64{{0, 9}, {5, 5}, {9, 0}, {least, greatest}, {greatest, least}, {least, 0}} {
				scales(t, v, x[0], x[1], order, 0)
			}
		}
	}
}
