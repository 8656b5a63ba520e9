package hilbert_test

import (
	"math/big"
	"slices"

	"fenland/api"
)

// wantIndex is the index of a point by the four rules, also for the order 0.
func wantIndex(k int, x, y int64) int64 {
	if k == 0 {
		return 0
	}
	s := int64(1)
	for range k - 1 {
		s += s
	}
	switch {
	case x < s && y < s:
		return wantIndex(k-1, y, x)
	case x < s && y >= s:
		return s*s + wantIndex(k-1, x, y-s)
	case x >= s && y >= s:
		return 2*s*s + wantIndex(k-1, x-s, y-s)
	default:
		return 3*s*s + wantIndex(k-1, s-1-y, 2*s-1-x)
	}
}

// indexOfPoint is the index of a point by the four rules.
func indexOfPoint(order int, p point) uint64 {
	return uint64(wantIndex(order, int64(p[0]), int64(p[1])))
}

// wantCurve are the points of a curve by their indices.
func wantCurve(order int) []point {
	l := make([]point, count(order))
	for x := range side(order) {
		for y := range side(order) {
			l[indexOfPoint(order, point{x, y})] = point{x, y}
		}
	}
	return l
}

// wantScale is what Scale returns, computed with numbers that have no limit.
func wantScale(v, lo, hi int64, order int) uint32 {
	if !slices.Contains(orders(), order) || lo > hi || v < lo {
		return 0
	}
	if v > hi {
		return side(order) - 1
	}
	size := big.NewInt(int64(side(order)))
	product := new(big.Int).Mul(new(big.Int).Sub(big.NewInt(v), big.NewInt(lo)), size)
	numbers := new(big.Int).Sub(big.NewInt(hi), big.NewInt(lo))
	numbers.Add(numbers, big.NewInt(1))
	return uint32(product.Div(product, numbers).Uint64())
}

// wantNumbers are the numbers of a field by the indices of the rows that have it.
func wantNumbers(l []api.Row, id int) map[int]int64 {
	to := map[int]int64{}
	for i, r := range l {
		at := slices.IndexFunc(r.Cells, func(c api.Cell) bool { return c.ID == id })
		if at >= 0 && !r.Cells[at].V.Null {
			to[i] = r.Cells[at].V.N
		}
	}
	return to
}

// wantCoordinates are the coordinates of the rows by one field.
func wantCoordinates(l []api.Row, id, order int) []uint32 {
	numbers := wantNumbers(l, id)
	var all []int64
	for _, n := range numbers {
		all = append(all, n)
	}
	to := make([]uint32, len(l))
	for i, n := range numbers {
		to[i] = wantScale(n, slices.Min(all), slices.Max(all), order)
	}
	return to
}

// wantOrder is what Order returns for an order that there is: each row is put behind those before it whose index is not
// greater.
func wantOrder(l []api.Row, ids [2]int, order int) []int {
	x, y := wantCoordinates(l, ids[0], order), wantCoordinates(l, ids[1], order)
	var places []uint64
	var rows []int
	for i := range l {
		place := indexOfPoint(order, point{x[i], y[i]})
		at := 0
		for at < len(places) && places[at] <= place {
			at++
		}
		places, rows = slices.Insert(places, at, place), slices.Insert(rows, at, i)
	}
	return rows
}

// inside tells whether a point lies in a rectangle.
func inside(p point, w [4]uint32) bool {
	return w[0] <= p[0] && p[0] <= w[2] && w[1] <= p[1] && p[1] <= w[3]
}

// wantCover are the ranges of the indices of all points in a rectangle.
func wantCover(order int, w [4]uint32) [][2]uint64 {
	var indices []uint64
	for x := w[0]; x <= w[2]; x++ {
		for y := w[1]; y <= w[3]; y++ {
			indices = append(indices, indexOfPoint(order, point{x, y}))
		}
	}
	slices.Sort(indices)
	var l [][2]uint64
	for at, i := range indices {
		if at == 0 || indices[at-1] != i-1 {
			l = append(l, [2]uint64{i, i})
		}
		l[len(l)-1][1] = i
	}
	return l
}
