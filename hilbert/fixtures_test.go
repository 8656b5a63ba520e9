package hilbert_test

import (
	"math"
	"math/rand"
	"testing"

	"fenland/api"
	"fenland/hilbert"
)

const (
	least    = math.MinInt64
	greatest = math.MaxInt64
)

// otherOrders are those that no curve has.
var otherOrders = []int{0, -1, 17, -2, -15, -16, -17, 18, 31, 32, 33, 63, 64, 65, 255, 256, 257, 272, 65537, 1<<32 + 1, math.MinInt, math.MinInt + 1, math.MaxInt, math.MaxInt - 1}

// orders are those that the functions use.
func orders() []int {
	var l []int
	for k := 1; k <= 16; k++ {
		l = append(l, k)
	}
	return l
}

// side is the number of points of a row of a square.
func side(order int) uint32 { return uint32(math.Pow(2, float64(order))) }

// count is the number of points of a square.
func count(order int) uint64 { return uint64(math.Pow(4, float64(order))) }

// point is a point of a square.
type point [2]uint32

// anyPoint is any point of a square.
func anyPoint(r *rand.Rand, order int) point {
	return point{uint32(r.Intn(int(side(order)))), uint32(r.Intn(int(side(order))))}
}

// edges are coordinates at the ends of a square and of its quadrants, and of the squares in these.
func edges(order int) []uint32 {
	l := []uint32{0, 1, side(order) - 1, side(order) - 2}
	for s := side(order) / 2; s > 1; s /= 2 {
		l = append(l, s-1, s, s+1, side(order)-s-1, side(order)-s)
	}
	return l
}

// outside are numbers that are no coordinates.
func outside(order int) []uint32 {
	s := side(order)
	return []uint32{s, s + 1, 2*s - 1, 2 * s, 3 * s, 1 << 16, 1<<16 + 1, 1 << 31, 1<<31 + s - 1, 1<<31 + s, math.MaxUint32 - s, math.MaxUint32 - 1, math.MaxUint32}
}

// edgePoints are points at the ends of a square and of its quadrants, and of the squares in these.
func edgePoints(order int) []point {
	var l []point
	for _, x := range edges(order) {
		for _, y := range edges(order) {
			l = append(l, point{x, y})
		}
	}
	return l
}

// edgeIndices are the indices at which a curve begins and ends, and those at which it enters and leaves smaller squares.
func edgeIndices(order int) []uint64 {
	l := []uint64{0, 1, 2, 3, count(order) - 1, count(order) - 2}
	for n := count(order) / 4; n > 1; n /= 4 {
		for q := uint64(1); q < 4; q++ {
			l = append(l, q*n-1, q*n, count(order)-q*n-1, count(order)-q*n)
		}
	}
	return l
}

// someIndices are indices of a curve at edges, and others.
func someIndices(r *rand.Rand, order, n int) []uint64 {
	l := edgeIndices(order)
	for range n {
		l = append(l, uint64(r.Int63())%count(order))
	}
	return l
}

// indexOf is the index of a point that has one.
func indexOf(t *testing.T, order int, p point) uint64 {
	t.Helper()
	i, err := hilbert.Index(order, p[0], p[1])
	if err != api.OK {
		t.Fatalf("Index(%d, %d, %d): %v", order, p[0], p[1], err)
	}
	return i
}

// pointOf is the point with an index that there is.
func pointOf(t *testing.T, order int, i uint64) point {
	t.Helper()
	x, y, err := hilbert.Point(order, i)
	if err != api.OK {
		t.Fatalf("Point(%d, %d): %v", order, i, err)
	}
	return point{x, y}
}

// curve are the points of a curve by their indices.
func curve(t *testing.T, order int) []point {
	t.Helper()
	var l []point
	for i := range count(order) {
		l = append(l, pointOf(t, order, i))
	}
	return l
}

// lies checks Index and Point for a point and its index.
func lies(t *testing.T, order int, p point, i uint64) {
	t.Helper()
	if got, err := hilbert.Index(order, p[0], p[1]); err != api.OK || got != i {
		t.Errorf("Index(%d, %d, %d) = %d, %v instead of %d", order, p[0], p[1], got, err, i)
	}
	if x, y, err := hilbert.Point(order, i); err != api.OK || x != p[0] || y != p[1] {
		t.Errorf("Point(%d, %d) = %d, %d, %v instead of %v", order, i, x, y, err, p)
	}
}

// indexFails checks that Index returns ErrArg and 0.
func indexFails(t *testing.T, order int, x, y uint32) {
	t.Helper()
	if i, err := hilbert.Index(order, x, y); err != api.ErrArg || i != 0 {
		t.Errorf("Index(%d, %d, %d) = %d, %v", order, x, y, i, err)
	}
}

// pointFails checks that Point returns ErrArg and 0, 0.
func pointFails(t *testing.T, order int, i uint64) {
	t.Helper()
	if x, y, err := hilbert.Point(order, i); err != api.ErrArg || x != 0 || y != 0 {
		t.Errorf("Point(%d, %d) = %d, %d, %v", order, i, x, y, err)
	}
}

// orderFails checks that Order returns ErrArg and nil.
func orderFails(t *testing.T, l []api.Row, ids [2]int, order int) {
	t.Helper()
	if rows, err := hilbert.Order(l, ids, order); err != api.ErrArg || len(rows) != 0 {
		t.Errorf("Order(%v, %v, %d) = %v, %v", l, ids, order, rows, err)
	}
}

// coverFails checks that Cover returns ErrArg and nil.
func coverFails(t *testing.T, order int, w [4]uint32) {
	t.Helper()
	if l, err := hilbert.Cover(order, w); err != api.ErrArg || len(l) != 0 {
		t.Errorf("Cover(%d, %v) = %v, %v", order, w, l, err)
	}
}

// cell has a number.
func cell(id int, n int64) api.Cell { return api.Cell{ID: id, V: api.Value{N: n}} }

// null has none.
func null(id int) api.Cell { return api.Cell{ID: id, V: api.Value{Null: true}} }

// row has the given cells.
func row(cells ...api.Cell) api.Row { return api.Row{Cells: cells} }

// pairs are rows with the fields 1 and 2.
func pairs(l ...[2]int64) []api.Row {
	var rows []api.Row
	for _, x := range l {
		rows = append(rows, row(cell(1, x[0]), cell(2, x[1])))
	}
	return rows
}
