package hilbert

import "fenland/api"

// window is a rectangle that is not empty: its least x and y, and its greatest ones.
type window [4]uint32

// Cover returns the ranges of indices of the points in the rectangle w, which cannot be extended.
func Cover(order int, w [4]uint32) ([][2]uint64, api.Errno) {
	if !isOrder(order) || w[0] > w[2] || w[1] > w[3] || !isCoordinate(w[2], order) || !isCoordinate(w[3], order) {
		return nil, api.ErrArg
	}
	var ranges [][2]uint64
	l := quadrants()
	// visit appends the ranges of a window of a square with the given side, whose curve begins at the index first.
	var visit func(w window, side uint32, first uint64)
	visit = func(w window, side uint32, first uint64) {
		if w == (window{0, 0, side - 1, side - 1}) {
			ranges = join(ranges, [2]uint64{first, first + square(side) - 1})
			return
		}
		s := side / 2
		for n, q := range l {
			if part, ok := q.clip(w, s); ok {
				visit(part, s, first+uint64(n)*square(s))
			}
		}
	}
	visit(w, 1<<order, 0)
	return ranges, api.OK
}

// clip returns the part of a window that lies in the quadrant, as it lies on the curve of the lower order, and whether
// there is one.
func (q quadrant) clip(w window, s uint32) (window, bool) {
	left, bottom := q.column*s, q.row*s
	x, y := max(w[0], left), max(w[1], bottom)
	toX, toY := min(w[2], left+s-1), min(w[3], bottom+s-1)
	if x > toX || y > toY {
		return window{}, false
	}
	x, y = q.enter(x, y, s)
	toX, toY = q.enter(toX, toY, s)
	// The last quadrant exchanges the ends.
	return window{min(x, toX), min(y, toY), max(x, toX), max(y, toY)}, true
}

// join appends a range to those before it, or extends the last of them if nothing lies between.
func join(l [][2]uint64, r [2]uint64) [][2]uint64 {
	last := len(l) - 1
	if last >= 0 && l[last][1]+1 == r[0] {
		l[last][1] = r[1]
		return l
	}
	return append(l, r)
}

// square returns the number of points of a square.
func square(side uint32) uint64 { return uint64(side) * uint64(side) }
