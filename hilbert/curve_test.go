package hilbert_test

import (
	"math"
	"math/rand"
	"slices"
	"testing"

	"fenland/api"
	"fenland/hilbert"
)

// P12.1: the section 'Examples', and the example 5 of DOC.md.
func TestExamples(t *testing.T) {
	for i, p := range []point{{0, 0}, {0, 1}, {1, 1}, {1, 0}} {
		lies(t, 1, p, uint64(i))
	}
	lies(t, 2, point{3, 0}, 15)
	if l, err := hilbert.Cover(1, [4]uint32{0, 0, 1, 0}); err != api.OK || !slices.Equal(l, [][2]uint64{{0, 0}, {3, 3}}) {
		t.Errorf("Cover(1, 0 0 1 0) = %v, %v", l, err)
	}
}

// P12.1, H1, H2: all points of the orders 1 to 8.
func TestWholeCurves(t *testing.T) {
	for _, order := range orders()[:8] {
		for i, p := range wantCurve(order) {
			lies(t, order, p, uint64(i))
		}
	}
}

// P12.1, H1, H2: points of each order, at edges and anywhere.
func TestPointsOfEachOrder(t *testing.T) {
	r := rand.New(rand.NewSource(1))
	for _, order := range orders() {
		l := edgePoints(order)
		for range 5000 {
			l = append(l, anyPoint(r, order))
		}
		for _, p := range l {
			lies(t, order, p, indexOfPoint(order, p))
		}
	}
}

// P12.1, H1: the four rules, with the indices that Index returns for the next lower order.
func TestRules(t *testing.T) {
	r := rand.New(rand.NewSource(2))
	for _, order := range orders()[:15] {
		s, n := side(order), count(order)
		l := edgePoints(order)
		for range 1000 {
			l = append(l, anyPoint(r, order))
		}
		for _, p := range l {
			x, y, i := p[0], p[1], indexOf(t, order, p)
			lies(t, order+1, point{y, x}, i)
			lies(t, order+1, point{x, y + s}, n+i)
			lies(t, order+1, point{x + s, y + s}, 2*n+i)
			lies(t, order+1, point{2*s - 1 - y, s - 1 - x}, 3*n+i)
		}
	}
}

// P12.1, H1: x and y at the ends of a square and beyond, for each order.
func TestEdgesOfIndex(t *testing.T) {
	for _, order := range orders() {
		last := side(order) - 1
		lies(t, order, point{0, 0}, 0)
		lies(t, order, point{last, 0}, count(order)-1)
		for _, p := range []point{{0, last}, {last, last}} {
			lies(t, order, p, indexOfPoint(order, p))
		}
		for _, x := range outside(order) {
			for _, y := range []uint32{0, 1, last / 2, last} {
				indexFails(t, order, x, y)
				indexFails(t, order, y, x)
			}
			for _, y := range outside(order) {
				indexFails(t, order, x, y)
			}
		}
	}
}

// P12.1, H2: indices at the ends of a curve and beyond, for each order.
func TestEdgesOfPoint(t *testing.T) {
	for _, order := range orders() {
		n := count(order)
		lies(t, order, point{0, 0}, 0)
		lies(t, order, point{side(order) - 1, 0}, n-1)
		for _, i := range []uint64{n, n + 1, 2 * n, 4*n - 1, 4 * n, 1 << 32, 1<<32 + 1, 1 << 33, 1 << 40, 1 << 62, 1 << 63, 1<<63 + n - 1, -n, math.MaxUint64 - 1, math.MaxUint64} {
			pointFails(t, order, i)
		}
	}
	pointFails(t, 16, 1<<32)
}

// P12.1, H1, H2: orders that no curve has, the least and the greatest int among them.
func TestOtherOrders(t *testing.T) {
	for _, order := range otherOrders {
		for _, x := range []uint32{0, 1, 2, 65535, 65536, math.MaxUint32} {
			for _, y := range []uint32{0, 1, 2, 65535, 65536, math.MaxUint32} {
				indexFails(t, order, x, y)
			}
		}
		for _, i := range []uint64{0, 1, 2, 3, 4, 1<<32 - 1, 1 << 32, math.MaxUint64} {
			pointFails(t, order, i)
		}
	}
}
