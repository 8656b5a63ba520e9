package hilbert_test

import (
	"math/rand"
	"testing"
)

// P12.2: by the orders 1 to 8, each point has an index of its own, and Point returns the point.
func TestBijection(t *testing.T) {
	for _, order := range orders()[:8] {
		seen := make([]bool, count(order))
		for x := range side(order) {
			for y := range side(order) {
				p := point{x, y}
				i := indexOf(t, order, p)
				if i >= count(order) || seen[i] {
					t.Fatalf("Index(%d, %d, %d) = %d", order, x, y, i)
				}
				seen[i] = true
				if q := pointOf(t, order, i); q != p {
					t.Errorf("Point(%d, %d) = %v, whose index is that of %v", order, i, q, p)
				}
			}
		}
	}
}

// P12.2: points and indices of each order, at edges and anywhere.
func TestInverse(t *testing.T) {
	r := rand.New(rand.NewSource(3))
	for _, order := range orders() {
		points := edgePoints(order)
		for range 3000 {
			points = append(points, anyPoint(r, order))
		}
		for _, p := range points {
			if i := indexOf(t, order, p); i >= count(order) || pointOf(t, order, i) != p {
				t.Errorf("the order %d: %v has the index %d, whose point is %v", order, p, i, pointOf(t, order, i))
			}
		}
		for _, i := range someIndices(r, order, 3000) {
			if p := pointOf(t, order, i); p[0] >= side(order) || p[1] >= side(order) || indexOf(t, order, p) != i {
				t.Errorf("the order %d: %d has the point %v, whose index is %d", order, i, p, indexOf(t, order, p))
			}
		}
	}
}

// areNeighbors tells whether points differ by 1 in exactly one coordinate.
func areNeighbors(p, q point) bool {
	x, y := int64(p[0])-int64(q[0]), int64(p[1])-int64(q[1])
	return x*x+y*y == 1
}

// P12.3: all steps of the curves of the orders 1 to 9.
func TestSteps(t *testing.T) {
	for _, order := range orders()[:9] {
		l := curve(t, order)
		for i, p := range l[1:] {
			if !areNeighbors(l[i], p) {
				t.Errorf("the order %d: from %v to %v at %d", order, l[i], p, i)
			}
		}
	}
}

// P12.3: steps of each order, from one square to the next and anywhere.
func TestStepsOfEachOrder(t *testing.T) {
	r := rand.New(rand.NewSource(4))
	for _, order := range orders() {
		for _, i := range someIndices(r, order, 5000) {
			if i > 0 && !areNeighbors(pointOf(t, order, i-1), pointOf(t, order, i)) {
				t.Errorf("the order %d: from %v to %v at %d", order, pointOf(t, order, i-1), pointOf(t, order, i), i)
			}
		}
	}
}

// P12.4: all squares of the orders 1 to 8. In each of them all indices have the same quotient, and no other square has it.
func TestSquares(t *testing.T) {
	for _, order := range orders()[:8] {
		l := curve(t, order)
		for j := range order + 2 {
			squares, quotients := map[point]uint64{}, map[uint64]point{}
			for i, p := range l {
				corner, quotient := point{p[0] / side(j), p[1] / side(j)}, uint64(i)/count(j)
				if n, ok := squares[corner]; ok && n != quotient {
					t.Fatalf("the order %d: the square %v of side %d has the quotients %d and %d", order, corner, side(j), n, quotient)
				}
				if q, ok := quotients[quotient]; ok && q != corner {
					t.Fatalf("the order %d: the squares %v and %v of side %d have the quotient %d", order, q, corner, side(j), quotient)
				}
				squares[corner], quotients[quotient] = quotient, corner
			}
		}
	}
}

// sameSquares checks P12.4 for two points, and squares of each side.
func sameSquares(t *testing.T, order int, p, q point) {
	t.Helper()
	a, b := indexOf(t, order, p), indexOf(t, order, q)
	for j := range order + 2 {
		inOne := p[0]/side(j) == q[0]/side(j) && p[1]/side(j) == q[1]/side(j)
		if inOne != (a/count(j) == b/count(j)) {
			t.Errorf("the order %d: %v and %v, with the indices %d and %d, in one square of side %d: %v", order, p, q, a, b, side(j), inOne)
		}
	}
}

// P12.4: all pairs of points of the orders 1 to 4.
func TestPairsOfPoints(t *testing.T) {
	for _, order := range orders()[:4] {
		l := curve(t, order)
		for _, p := range l {
			for _, q := range l {
				sameSquares(t, order, p, q)
			}
		}
	}
}

// P12.4: pairs of points of each order that are close to each other, at edges of squares, or anywhere.
func TestPairsOfEachOrder(t *testing.T) {
	r := rand.New(rand.NewSource(5))
	for _, order := range orders() {
		border := edgePoints(order)
		for range 2000 {
			p := anyPoint(r, order)
			if r.Intn(2) == 0 {
				p = border[r.Intn(len(border))]
			}
			near := p
			for c := range near {
				// Exchanging low digits alone leaves a point in its larger squares.
				near[c] ^= uint32(r.Int31()) % side(r.Intn(order+1))
			}
			sameSquares(t, order, p, near)
			sameSquares(t, order, p, anyPoint(r, order))
			sameSquares(t, order, p, border[r.Intn(len(border))])
			i := indexOf(t, order, p)
			sameSquares(t, order, p, pointOf(t, order, (i+1)%count(order)))
		}
	}
}
