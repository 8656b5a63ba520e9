package hilbert_test

import (
	"math"
	"math/rand"
	"slices"
	"testing"

	"fenland/api"
	"fenland/hilbert"
)

// arranges checks Order, and the oracle with it.
func arranges(t *testing.T, l []api.Row, ids [2]int, order int, want ...int) {
	t.Helper()
	if rows, err := hilbert.Order(l, ids, order); err != api.OK || !slices.Equal(rows, want) {
		t.Errorf("Order(%v, %v, %d) = %v, %v instead of %v", l, ids, order, rows, err, want)
	}
	if rows := wantOrder(l, ids, order); !slices.Equal(rows, want) {
		t.Errorf("the oracle has %v for %v, %v, %d", rows, l, ids, order)
	}
}

// agrees checks Order against the oracle.
func agrees(t *testing.T, l []api.Row, ids [2]int, order int) {
	t.Helper()
	want := wantOrder(l, ids, order)
	if rows, err := hilbert.Order(l, ids, order); err != api.OK || !slices.Equal(rows, want) {
		t.Errorf("Order(%v, %v, %d) = %v, %v instead of %v", l, ids, order, rows, err, want)
	}
}

// P12.1, H4: by hand.
func TestOrder(t *testing.T) {
	both := [2]int{1, 2}
	corners := pairs([2]int64{9, 0}, [2]int64{9, 9}, [2]int64{0, 9}, [2]int64{0, 0})
	for _, order := range orders() {
		arranges(t, nil, both, order)
		arranges(t, []api.Row{}, both, order)
		arranges(t, pairs([2]int64{5, 7}), both, order, 0)
		arranges(t, []api.Row{{}}, both, order, 0)
		arranges(t, corners, both, order, 3, 2, 1, 0)
	}
	// The first coordinate is that of ids[0]: by the order 1, the curve goes upward first.
	arranges(t, corners, [2]int{2, 1}, 1, 3, 0, 1, 2)
	// By the order 2, 16 rows in the order of x and then y.
	var grid []api.Row
	for x := range int64(4) {
		for y := range int64(4) {
			grid = append(grid, row(cell(1, 100+x), cell(2, y-2)))
		}
	}
	arranges(t, grid, both, 2, 0, 4, 5, 1, 2, 3, 7, 6, 10, 11, 15, 14, 13, 9, 8, 12)
	// By the order 1, the squares of four rows each, which remain as they are.
	arranges(t, grid, both, 1, 0, 1, 4, 5, 2, 3, 6, 7, 10, 11, 14, 15, 8, 9, 12, 13)
}

// P12.1, H4: rows without ids[0], without ids[1] and without both, by hand. The order 1 has the points (0, 0), (0, 1),
// (1, 1) and (1, 0).
func TestMissingFields(t *testing.T) {
	both := [2]int{1, 2}
	// Without ids[0], x is 0, as at the smallest number; without ids[1], y is 0.
	l := []api.Row{row(cell(1, 9), cell(2, 9)), row(cell(2, 9)), row(cell(1, 9)), row(), row(cell(1, 0), cell(2, 0)), row(cell(3, 5))}
	arranges(t, l, both, 1, 3, 4, 5, 1, 0, 2)
	// Missing numbers do not count as 0 for the smallest or the largest number.
	l = []api.Row{row(cell(1, 20)), row(cell(1, 11)), row(cell(1, 10)), row()}
	arranges(t, l, both, 1, 1, 2, 3, 0)
	arranges(t, l, both, 4, 2, 3, 1, 0)
	l = []api.Row{row(cell(2, -20)), row(cell(2, -11)), row(cell(2, -10)), row()}
	arranges(t, l, both, 1, 0, 3, 1, 2)
	// No row has the one field or the other, or both.
	arranges(t, []api.Row{row(cell(1, 9)), row(cell(1, 0)), row(cell(1, 9))}, both, 3, 1, 0, 2)
	arranges(t, []api.Row{row(cell(2, 9)), row(cell(2, 0)), row(cell(2, 9))}, both, 3, 1, 0, 2)
	arranges(t, l, [2]int{7, 8}, 3, 0, 1, 2, 3)
	arranges(t, []api.Row{{}, {}, {}}, both, 16, 0, 1, 2)
}

// P12.1, H4: ids of two equal fields, whose points lie on the diagonal, by hand.
func TestEqualFields(t *testing.T) {
	l := pairs([2]int64{3, 0}, [2]int64{1, 0}, [2]int64{2, 0}, [2]int64{0, 0}, [2]int64{1, 5})
	arranges(t, l, [2]int{1, 1}, 2, 3, 1, 4, 2, 0)
	arranges(t, l, [2]int{1, 1}, 1, 1, 3, 4, 0, 2)
	arranges(t, l, [2]int{2, 2}, 16, 0, 1, 2, 3, 4)
	arranges(t, l, [2]int{3, 3}, 2, 0, 1, 2, 3, 4)
}

// P12.1, H4: a field with several cells, of which the first one counts alone, and null values before and after others, by
// hand.
func TestRepeatedFields(t *testing.T) {
	one := [2]int{1, 2}
	l := []api.Row{row(cell(1, 9), cell(1, 0)), row(cell(1, 0), cell(1, 9)), row(cell(2, 3), cell(1, 8), cell(1, 1))}
	arranges(t, l, one, 1, 1, 0, 2)
	// Later cells are neither the smallest nor the largest number.
	l = []api.Row{row(cell(1, 2), cell(1, 100)), row(cell(1, 1)), row(cell(1, 0), cell(1, -100))}
	arranges(t, l, one, 1, 1, 2, 0)
	arranges(t, l, one, 4, 2, 1, 0)
	// A null value before another one counts as no field, whatever number it has.
	l = []api.Row{row(null(1), cell(1, 9)), row(cell(1, 5)), row(cell(1, 4))}
	arranges(t, l, one, 1, 0, 2, 1)
	arranges(t, l, one, 3, 0, 2, 1)
	l = []api.Row{row(api.Cell{ID: 1, V: api.Value{Null: true, N: 9}}), row(cell(1, 5)), row(cell(1, 4))}
	arranges(t, l, one, 1, 0, 2, 1)
	l = []api.Row{row(cell(1, 5)), row(cell(1, 4)), row(api.Cell{ID: 1, V: api.Value{Null: true, N: -9}}), row(null(1), cell(1, -9))}
	arranges(t, l, one, 1, 1, 2, 3, 0)
	// After another one it does not count.
	l = []api.Row{row(cell(1, 9), null(1)), row(cell(1, 0), null(1)), row(null(2), cell(1, 0), null(1), cell(1, 9))}
	arranges(t, l, one, 1, 1, 2, 0)
	// One of another field does not count either.
	l = []api.Row{row(null(2), null(3), cell(1, 9)), row(cell(1, 0), null(2)), row(null(1), cell(2, 0))}
	arranges(t, l, one, 1, 1, 2, 0)
	// All are null.
	arranges(t, []api.Row{row(null(1)), row(null(2)), row(null(1), null(2))}, one, 5, 0, 1, 2)
}

// P12.1, H4: the number of a value is N, also beside a text, and fields have any numbers.
func TestKindsOfCells(t *testing.T) {
	text := func(n int64, s string) api.Row {
		return row(api.Cell{ID: 1, V: api.Value{N: n, S: s}})
	}
	arranges(t, []api.Row{text(0, "b"), text(0, "a"), text(1, ""), text(0, "c")}, [2]int{1, 2}, 2, 0, 1, 3, 2)
	for _, id := range []int{0, -1, 64, 1 << 40, math.MinInt, math.MaxInt} {
		l := []api.Row{row(cell(id, 9)), row(cell(id, 0)), row()}
		arranges(t, l, [2]int{id, 1}, 1, 1, 2, 0)
		arranges(t, l, [2]int{1, id}, 1, 1, 2, 0)
		arranges(t, l, [2]int{id, id}, 1, 1, 2, 0)
	}
}

// P12.1, H4: values at both ends of int64, by hand.
func TestEndsOfNumbers(t *testing.T) {
	both := [2]int{1, 2}
	l := pairs([2]int64{greatest, least}, [2]int64{greatest, greatest}, [2]int64{least, greatest}, [2]int64{least, least}, [2]int64{0, 0}, [2]int64{-1, -1}, [2]int64{-1, 0})
	for _, order := range []int{1, 2, 15, 16} {
		agrees(t, l, both, order)
	}
	arranges(t, l, both, 1, 3, 5, 2, 6, 1, 4, 0)
	arranges(t, l[:4], both, 16, 3, 2, 1, 0)
	// One end alone, and missing numbers, which have the coordinate of the smallest one.
	arranges(t, []api.Row{row(cell(1, greatest)), row(), row(cell(1, greatest))}, both, 16, 0, 1, 2)
	arranges(t, []api.Row{row(cell(1, least)), row(), row(cell(1, least))}, both, 16, 0, 1, 2)
	arranges(t, []api.Row{row(cell(1, greatest)), row(), row(cell(1, greatest-1))}, both, 16, 1, 2, 0)
	arranges(t, []api.Row{row(cell(1, least+1)), row(), row(cell(1, least))}, both, 16, 1, 2, 0)
}

// P12.1, H4: rows with equal indices remain in their order, however many there are.
func TestEqualIndices(t *testing.T) {
	r := rand.New(rand.NewSource(7))
	for _, n := range []int{1, 2, 11, 12, 13, 50, 500, 4096} {
		var same, few []api.Row
		for range n {
			same = append(same, row(cell(1, 5), cell(2, 6)))
			few = append(few, row(cell(1, r.Int63n(2)), cell(2, r.Int63n(2))))
		}
		for _, l := range [][]api.Row{same, few, slices.Concat(same, few)} {
			for _, order := range []int{1, 2, 16} {
				agrees(t, l, [2]int{1, 2}, order)
			}
		}
	}
}

// anyRow has a few cells of the fields 1 to 3, in any order.
func anyRow(r *rand.Rand, most int64) api.Row {
	var to api.Row
	for range r.Intn(5) {
		c := cell(1+r.Intn(3), r.Int63n(most)-most/2)
		if r.Intn(6) == 0 {
			c.V = api.Value{Null: true, N: int64(r.Intn(2)) * c.V.N}
		}
		to.Cells = append(to.Cells, c)
	}
	return to
}

// P12.1, H4: any rows.
func TestOrderOfAny(t *testing.T) {
	r := rand.New(rand.NewSource(8))
	for range 3000 {
		var l []api.Row
		most := []int64{2, 4, 10, 1000, 1 << 40, greatest}[r.Intn(6)]
		for range r.Intn(40) {
			l = append(l, anyRow(r, most))
		}
		agrees(t, l, [2]int{1 + r.Intn(3), 1 + r.Intn(3)}, 1+r.Intn(16))
	}
}

// P12.1, H4: many rows: each of them is in the result once, behind those with smaller indices.
func TestManyRows(t *testing.T) {
	r := rand.New(rand.NewSource(9))
	var l []api.Row
	for range 20000 {
		l = append(l, anyRow(r, 1<<20))
	}
	for _, order := range []int{1, 7, 16} {
		rows, err := hilbert.Order(l, [2]int{1, 2}, order)
		if err != api.OK || len(rows) != len(l) {
			t.Fatalf("Order returns %d rows, %v", len(rows), err)
		}
		x, y := wantCoordinates(l, 1, order), wantCoordinates(l, 2, order)
		seen := make([]bool, len(l))
		for at, i := range rows {
			if i < 0 || i >= len(l) || seen[i] {
				t.Fatalf("the row %d is returned twice, or there is none", i)
			}
			seen[i] = true
			if at == 0 {
				continue
			}
			before := rows[at-1]
			a, b := indexOfPoint(order, point{x[before], y[before]}), indexOfPoint(order, point{x[i], y[i]})
			if a > b || a == b && before > i {
				t.Errorf("the row %d with the index %d comes before %d with %d", before, a, i, b)
			}
		}
	}
}

// P12.1, H4: orders that no curve has, the least and the greatest int among them, with rows and without.
func TestErrorsOfOrder(t *testing.T) {
	for _, order := range otherOrders {
		for _, ids := range [][2]int{{1, 2}, {0, 0}, {-1, 7}} {
			orderFails(t, nil, ids, order)
			orderFails(t, []api.Row{{}}, ids, order)
			orderFails(t, pairs([2]int64{1, 2}, [2]int64{0, 3}), ids, order)
		}
	}
}
