package hilbert_test

import (
	"math"
	"math/rand"
	"slices"
	"testing"

	"fenland/api"
	"fenland/hilbert"
)

// cover are the ranges of a rectangle that has some.
func cover(t *testing.T, order int, w [4]uint32) [][2]uint64 {
	t.Helper()
	l, err := hilbert.Cover(order, w)
	if err != api.OK {
		t.Fatalf("Cover(%d, %v): %v", order, w, err)
	}
	return l
}

// covers checks Cover.
func covers(t *testing.T, order int, w [4]uint32, want ...[2]uint64) {
	t.Helper()
	if l, err := hilbert.Cover(order, w); err != api.OK || !slices.Equal(l, want) {
		t.Errorf("Cover(%d, %v) = %v, %v instead of %v", order, w, l, err, want)
	}
}

// coversAsWanted checks Cover against the oracle.
func coversAsWanted(t *testing.T, order int, w [4]uint32) {
	t.Helper()
	covers(t, order, w, wantCover(order, w)...)
}

// rectangles are all those with the given ends.
func rectangles(ends []uint32) [][4]uint32 {
	var l [][4]uint32
	for _, x := range ends {
		for _, y := range ends {
			for _, toX := range ends {
				for _, toY := range ends {
					if x <= toX && y <= toY {
						l = append(l, [4]uint32{x, y, toX, toY})
					}
				}
			}
		}
	}
	return l
}

// coordinatesOf are all coordinates of an order.
func coordinatesOf(order int) []uint32 {
	var l []uint32
	for x := range side(order) {
		l = append(l, x)
	}
	return l
}

// P12.1, H5: rectangles of the orders 1 and 2, by hand. The curve of the order 2 visits
//
//	5  6  9 10
//	4  7  8 11
//	3  2 13 12
//	0  1 14 15
func TestCover(t *testing.T) {
	// The points of the order 1, its rows, its columns, and all of it.
	covers(t, 1, [4]uint32{0, 0, 0, 0}, [2]uint64{0, 0})
	covers(t, 1, [4]uint32{0, 1, 0, 1}, [2]uint64{1, 1})
	covers(t, 1, [4]uint32{1, 1, 1, 1}, [2]uint64{2, 2})
	covers(t, 1, [4]uint32{1, 0, 1, 0}, [2]uint64{3, 3})
	covers(t, 1, [4]uint32{0, 0, 1, 0}, [2]uint64{0, 0}, [2]uint64{3, 3})
	covers(t, 1, [4]uint32{0, 1, 1, 1}, [2]uint64{1, 2})
	covers(t, 1, [4]uint32{0, 0, 0, 1}, [2]uint64{0, 1})
	covers(t, 1, [4]uint32{1, 0, 1, 1}, [2]uint64{2, 3})
	covers(t, 1, [4]uint32{0, 0, 1, 1}, [2]uint64{0, 3})
	// The rows of the order 2, and its columns.
	covers(t, 2, [4]uint32{0, 0, 3, 0}, [2]uint64{0, 1}, [2]uint64{14, 15})
	covers(t, 2, [4]uint32{0, 1, 3, 1}, [2]uint64{2, 3}, [2]uint64{12, 13})
	covers(t, 2, [4]uint32{0, 2, 3, 2}, [2]uint64{4, 4}, [2]uint64{7, 8}, [2]uint64{11, 11})
	covers(t, 2, [4]uint32{0, 3, 3, 3}, [2]uint64{5, 6}, [2]uint64{9, 10})
	covers(t, 2, [4]uint32{0, 0, 0, 3}, [2]uint64{0, 0}, [2]uint64{3, 5})
	covers(t, 2, [4]uint32{1, 0, 1, 3}, [2]uint64{1, 2}, [2]uint64{6, 7})
	covers(t, 2, [4]uint32{2, 0, 2, 3}, [2]uint64{8, 9}, [2]uint64{13, 14})
	covers(t, 2, [4]uint32{3, 0, 3, 3}, [2]uint64{10, 12}, [2]uint64{15, 15})
	// Its quadrants, its halves, and all of it.
	covers(t, 2, [4]uint32{0, 0, 1, 1}, [2]uint64{0, 3})
	covers(t, 2, [4]uint32{0, 2, 1, 3}, [2]uint64{4, 7})
	covers(t, 2, [4]uint32{2, 2, 3, 3}, [2]uint64{8, 11})
	covers(t, 2, [4]uint32{2, 0, 3, 1}, [2]uint64{12, 15})
	covers(t, 2, [4]uint32{0, 0, 1, 3}, [2]uint64{0, 7})
	covers(t, 2, [4]uint32{0, 2, 3, 3}, [2]uint64{4, 11})
	covers(t, 2, [4]uint32{2, 0, 3, 3}, [2]uint64{8, 15})
	covers(t, 2, [4]uint32{0, 0, 3, 1}, [2]uint64{0, 3}, [2]uint64{12, 15})
	covers(t, 2, [4]uint32{0, 0, 3, 3}, [2]uint64{0, 15})
	// Rectangles across the four quadrants, and ranges that touch each other where quadrants meet.
	covers(t, 2, [4]uint32{1, 1, 2, 2}, [2]uint64{2, 2}, [2]uint64{7, 8}, [2]uint64{13, 13})
	covers(t, 2, [4]uint32{0, 1, 0, 2}, [2]uint64{3, 4})
	covers(t, 2, [4]uint32{1, 2, 2, 2}, [2]uint64{7, 8})
	covers(t, 2, [4]uint32{3, 1, 3, 2}, [2]uint64{11, 12})
	covers(t, 2, [4]uint32{0, 1, 1, 2}, [2]uint64{2, 4}, [2]uint64{7, 7})
	covers(t, 2, [4]uint32{0, 1, 3, 3}, [2]uint64{2, 13})
	covers(t, 2, [4]uint32{0, 0, 3, 2}, [2]uint64{0, 4}, [2]uint64{7, 8}, [2]uint64{11, 15})
	covers(t, 2, [4]uint32{0, 0, 2, 3}, [2]uint64{0, 9}, [2]uint64{13, 14})
	covers(t, 2, [4]uint32{1, 0, 3, 3}, [2]uint64{1, 2}, [2]uint64{6, 15})
}

// P12.1, P12.5, H5: all rectangles of the orders 1 to 4, each against the indices of all of its points.
func TestAllRectangles(t *testing.T) {
	for _, order := range orders()[:4] {
		for _, w := range rectangles(coordinatesOf(order)) {
			coversAsWanted(t, order, w)
		}
	}
}

// P12.1, P12.5, H5: rectangles of the orders 5 to 8, at each side of the square, across its quadrants, and any.
func TestRectanglesOfHigherOrders(t *testing.T) {
	r := rand.New(rand.NewSource(10))
	for _, order := range orders()[4:8] {
		last, half := side(order)-1, side(order)/2
		l := rectangles([]uint32{0, 1, half - 1, half, last - 1, last})
		for range 60 {
			l = append(l, anyRectangle(r, order))
		}
		for i, w := range l {
			if order < 7 || i%9 == 0 {
				coversAsWanted(t, order, w)
			}
		}
	}
}

// anyRectangle is any rectangle of a square.
func anyRectangle(r *rand.Rand, order int) [4]uint32 {
	p, q := anyPoint(r, order), anyPoint(r, order)
	return [4]uint32{min(p[0], q[0]), min(p[1], q[1]), max(p[0], q[0]), max(p[1], q[1])}
}

// isCover checks ranges of a rectangle: they are in increasing order, have as many indices as there are points, begin and
// end with points of the rectangle, and cannot be extended. Of long ranges, only some indices are looked at.
func isCover(t *testing.T, r *rand.Rand, order int, w [4]uint32, l [][2]uint64) {
	t.Helper()
	var sum uint64
	for at, x := range l {
		if x[0] > x[1] || x[1] >= count(order) || at > 0 && l[at-1][1]+1 >= x[0] {
			t.Fatalf("Cover(%d, %v) has the range %v at %d", order, w, x, at)
		}
		sum += x[1] - x[0] + 1
		within := []uint64{x[0], x[1]}
		for i := x[0]; i <= x[1]; i += 1 + uint64(r.Int63())%(1+(x[1]-x[0])/4) {
			within = append(within, i)
		}
		for _, i := range within {
			if !inside(pointOf(t, order, i), w) {
				t.Fatalf("Cover(%d, %v) has the index %d of the point %v", order, w, i, pointOf(t, order, i))
			}
		}
		if x[0] > 0 && inside(pointOf(t, order, x[0]-1), w) || x[1] < count(order)-1 && inside(pointOf(t, order, x[1]+1), w) {
			t.Fatalf("Cover(%d, %v) has the range %v, which can be extended", order, w, x)
		}
	}
	if want := uint64(w[2]-w[0]+1) * uint64(w[3]-w[1]+1); sum != want {
		t.Errorf("Cover(%d, %v) has %d indices instead of %d", order, w, sum, want)
	}
}

// P12.5: the ranges contain the indices of the points, each once, and no others, by the orders 1 to 5.
func TestPointsOfRanges(t *testing.T) {
	for _, order := range orders()[:5] {
		ends := coordinatesOf(order)
		if order > 3 {
			ends = edges(order)
			slices.Sort(ends)
			ends = slices.Compact(ends)
		}
		l := curve(t, order)
		for n, w := range rectangles(ends) {
			if order == 5 && n%7 != 0 {
				continue
			}
			in := make([]bool, len(l))
			for _, x := range cover(t, order, w) {
				for i := x[0]; i <= x[1]; i++ {
					if in[i] {
						t.Fatalf("Cover(%d, %v) has the index %d twice", order, w, i)
					}
					in[i] = true
				}
			}
			for i, p := range l {
				if in[i] != inside(p, w) {
					t.Fatalf("Cover(%d, %v) has the index %d of %v: %v", order, w, i, p, in[i])
				}
			}
		}
	}
}

// P12.5: rectangles of each order at edges, and any.
func TestRectanglesOfEachOrder(t *testing.T) {
	r := rand.New(rand.NewSource(11))
	for _, order := range orders() {
		last, half := side(order)-1, side(order)/2
		l := [][4]uint32{{0, 0, last, last}, {0, 0, last, half - 1}, {0, half, last, last}, {0, 0, half - 1, last}, {half, 0, last, last}}
		for range 40 {
			p := anyPoint(r, order)
			l = append(l, [4]uint32{p[0], p[1], p[0], p[1]}, [4]uint32{p[0], p[1], min(last, p[0]+30), min(last, p[1]+30)})
		}
		for range 4 {
			l = append(l, anyRectangle(r, order))
		}
		for _, w := range l {
			isCover(t, r, order, w, cover(t, order, w))
		}
	}
}

// P12.1, P12.5, H5: one point, at edges and anywhere, for each order.
func TestOnePoint(t *testing.T) {
	r := rand.New(rand.NewSource(12))
	for _, order := range orders() {
		l := edgePoints(order)
		for range 300 {
			l = append(l, anyPoint(r, order))
		}
		for _, p := range l {
			i := indexOfPoint(order, p)
			covers(t, order, [4]uint32{p[0], p[1], p[0], p[1]}, [2]uint64{i, i})
		}
	}
}

// P12.1, P12.4, H5: the whole square, and smaller squares whose corners have multiples of their side as coordinates, for
// each order: they are one range.
func TestSquaresAreOneRange(t *testing.T) {
	r := rand.New(rand.NewSource(13))
	for _, order := range orders() {
		covers(t, order, [4]uint32{0, 0, side(order) - 1, side(order) - 1}, [2]uint64{0, count(order) - 1})
		for j := range order {
			s := side(j)
			for range 50 {
				p := anyPoint(r, order)
				x, y := p[0]/s*s, p[1]/s*s
				first := indexOfPoint(order, p) / count(j) * count(j)
				covers(t, order, [4]uint32{x, y, x + s - 1, y + s - 1}, [2]uint64{first, first + count(j) - 1})
			}
		}
	}
}

// P12.1, P12.5, H5: rectangles of the order 16 whose ranges are few, by hand. Its four quadrants have 2^30 points each.
func TestRectanglesOfOrder16(t *testing.T) {
	const quarter, last, half = 1 << 30, 65535, 32768
	// Halves, and the quadrants; the lower half is not one range.
	covers(t, 16, [4]uint32{0, 0, half - 1, last}, [2]uint64{0, 2*quarter - 1})
	covers(t, 16, [4]uint32{0, half, last, last}, [2]uint64{quarter, 3*quarter - 1})
	covers(t, 16, [4]uint32{half, 0, last, last}, [2]uint64{2 * quarter, 4*quarter - 1})
	covers(t, 16, [4]uint32{0, 0, last, half - 1}, [2]uint64{0, quarter - 1}, [2]uint64{3 * quarter, 4*quarter - 1})
	covers(t, 16, [4]uint32{0, 0, half - 1, half - 1}, [2]uint64{0, quarter - 1})
	covers(t, 16, [4]uint32{half, 0, last, half - 1}, [2]uint64{3 * quarter, 4*quarter - 1})
	// Two points where quadrants meet, and four in the middle, of which two are neighbors on the curve.
	covers(t, 16, [4]uint32{0, half - 1, 0, half}, [2]uint64{quarter - 1, quarter})
	covers(t, 16, [4]uint32{half - 1, half, half, half}, [2]uint64{2*quarter - 1, 2 * quarter})
	covers(t, 16, [4]uint32{last, half - 1, last, half}, [2]uint64{3*quarter - 1, 3 * quarter})
	coversAsWanted(t, 16, [4]uint32{half - 1, half - 1, half, half})
	// The last points of the curve, and the first ones.
	covers(t, 16, [4]uint32{last - 1, 0, last, 1}, [2]uint64{1<<32 - 4, 1<<32 - 1})
	covers(t, 16, [4]uint32{0, 0, 1, 1}, [2]uint64{0, 3})
	// Small rectangles at corners, at sides, in the middle and anywhere, against all of their points.
	r := rand.New(rand.NewSource(14))
	l := []point{{0, 0}, {0, last - 20}, {last - 20, 0}, {last - 20, last - 20}, {half - 9, half - 9}, {half - 9, 0}, {0, half - 9}, {last - 20, half - 9}, {half - 9, last - 20}}
	for range 100 {
		p := anyPoint(r, 16)
		l = append(l, point{min(p[0], last-20), min(p[1], last-20)})
	}
	for _, p := range l {
		coversAsWanted(t, 16, [4]uint32{p[0], p[1], p[0] + 20, p[1] + 20})
		coversAsWanted(t, 16, [4]uint32{p[0], p[1], p[0] + uint32(r.Intn(20)), p[1] + uint32(r.Intn(20))})
	}
}

// P12.1, P12.5, H5: one row and one column of points, at each side, in the middle and elsewhere, for each order.
func TestRowsAndColumns(t *testing.T) {
	for _, order := range orders() {
		last := side(order) - 1
		for _, x := range []uint32{0, 1, last / 3, last / 2, last/2 + 1, last} {
			upright, level := [4]uint32{x, 0, x, last}, [4]uint32{0, x, last, x}
			coversAsWanted(t, order, upright)
			coversAsWanted(t, order, level)
			coversAsWanted(t, order, [4]uint32{x, last / 4, x, last - last/4})
			coversAsWanted(t, order, [4]uint32{last / 4, x, last - last/4, x})
		}
	}
}

// P12.1, H5: orders that no curve has, the least and the greatest int among them.
func TestCoverOfOtherOrders(t *testing.T) {
	for _, order := range otherOrders {
		for _, w := range [][4]uint32{{0, 0, 0, 0}, {0, 0, 1, 1}, {0, 0, 65535, 65535}, {1, 0, 0, 0}, {0, 0, 65536, 0}, {0, 0, math.MaxUint32, math.MaxUint32}} {
			coverFails(t, order, w)
		}
	}
}

// P12.1, H5: w[0] > w[2], w[1] > w[3], and ends outside the square, for each order.
func TestErrorsOfCover(t *testing.T) {
	for _, order := range orders() {
		last := side(order) - 1
		coverFails(t, order, [4]uint32{1, 0, 0, 0})
		coverFails(t, order, [4]uint32{0, 1, 0, 0})
		coverFails(t, order, [4]uint32{1, 1, 0, 0})
		coverFails(t, order, [4]uint32{last, 0, last - 1, last})
		coverFails(t, order, [4]uint32{0, last, last, last - 1})
		coverFails(t, order, [4]uint32{last, last, 0, 0})
		for _, x := range outside(order) {
			for _, y := range []uint32{0, last, x} {
				coverFails(t, order, [4]uint32{0, 0, x, y})
				coverFails(t, order, [4]uint32{0, 0, y, x})
				coverFails(t, order, [4]uint32{x, 0, x, y})
				coverFails(t, order, [4]uint32{0, x, y, x})
				coverFails(t, order, [4]uint32{x, x, x, x})
				// Here w[0] > w[2], or w[1] > w[3], too.
				coverFails(t, order, [4]uint32{x, 0, last, y})
				coverFails(t, order, [4]uint32{0, x, y, last})
				coverFails(t, order, [4]uint32{x, x, 0, 0})
			}
		}
	}
}
