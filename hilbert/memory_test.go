package hilbert_test

import (
	"math"
	"math/rand"
	"slices"
	"sync"
	"testing"

	"fenland/api"
	"fenland/hilbert"
)

// copyOf is a copy of rows in memory of its own.
func copyOf(l []api.Row) []api.Row {
	to := slices.Clone(l)
	for i, r := range to {
		to[i].Cells = slices.Clone(r.Cells)
	}
	return to
}

// equal tells whether rows are equal.
func equal(l, m []api.Row) bool {
	return slices.EqualFunc(l, m, func(a, b api.Row) bool { return slices.Equal(a.Cells, b.Cells) })
}

// roomy is a copy of rows with others behind their end, and cells behind the end of each of them; and the rows and cells
// with these.
func roomy(l []api.Row) (content, whole []api.Row) {
	for _, r := range append(copyOf(l), row(cell(1, -77)), row(cell(2, 77)), row()) {
		n := len(r.Cells)
		cells := append(slices.Clone(r.Cells), cell(1, 99), null(2), cell(2, -99))
		content, whole = append(content, row(cells[:n]...)), append(whole, row(cells...))
	}
	return content[:len(l)], whole
}

// spoil writes to all elements of a slice and to the room behind them.
func spoil[T any](l []T, x T) {
	l = l[:cap(l)]
	for i := range l {
		l[i] = x
	}
}

// samples are lists of rows.
func samples() [][]api.Row {
	r := rand.New(rand.NewSource(15))
	l := [][]api.Row{nil, {}, {{}}, {{}, {}}, pairs([2]int64{1, 2}), pairs([2]int64{9, 0}, [2]int64{9, 9}, [2]int64{0, 9}, [2]int64{0, 0})}
	for _, n := range []int{1, 2, 3, 12, 13, 40, 300} {
		var some []api.Row
		for range n {
			some = append(some, anyRow(r, 100))
		}
		l = append(l, some)
	}
	return l
}

// P2: Order leaves its arguments, with an error too, and its results are separate from one another.
func TestOrderIsSeparate(t *testing.T) {
	for _, l := range samples() {
		for _, order := range []int{1, 5, 16, 0, 17} {
			for _, ids := range [][2]int{{1, 2}, {2, 2}, {7, 8}} {
				var want []int
				if order == 1 || order == 5 || order == 16 {
					want = wantOrder(l, ids, order)
				}
				content, whole := roomy(l)
				kept := copyOf(whole)
				first, _ := hilbert.Order(content, ids, order)
				second, _ := hilbert.Order(content, ids, order)
				if !equal(content, l) || !equal(whole, kept) {
					t.Errorf("Order(%v, %v, %d) changes its argument", l, ids, order)
				}
				spoil(append(first, 1, 2), -5)
				spoil(first, -5)
				for i := range whole {
					spoil(whole[i].Cells, null(9))
				}
				if !slices.Equal(second, want) {
					t.Errorf("Order(%v, %v, %d) = %v instead of %v after changes elsewhere", l, ids, order, second, want)
				}
			}
		}
	}
}

// P2: Cover leaves its argument, and its results are separate from one another.
func TestCoverIsSeparate(t *testing.T) {
	for _, order := range []int{1, 2, 5} {
		for _, w := range rectangles([]uint32{0, 1, side(order) - 1}) {
			kept, want := w, wantCover(order, w)
			first, second := cover(t, order, w), cover(t, order, w)
			spoil(append(first, [2]uint64{}), [2]uint64{7, 3})
			spoil(first, [2]uint64{7, 3})
			if w != kept || !slices.Equal(second, want) {
				t.Errorf("Cover(%d, %v) = %v instead of %v after changes elsewhere", order, w, second, want)
			}
			covers(t, order, w, want...)
		}
	}
}

// P2: nil and empty slices are interchangeable.
func TestNilAndEmpty(t *testing.T) {
	for _, cells := range [][]api.Cell{nil, {}, make([]api.Cell, 0, 5), row(cell(1, 9)).Cells[:0]} {
		l := []api.Row{row(cell(1, 9)), {Cells: cells}, row(cell(1, 0)), {Cells: cells}}
		arranges(t, l, [2]int{1, 2}, 1, 1, 2, 3, 0)
	}
	for _, l := range [][]api.Row{nil, {}, make([]api.Row, 0, 5), pairs([2]int64{1, 2})[:0]} {
		arranges(t, l, [2]int{1, 2}, 1)
		orderFails(t, l, [2]int{1, 2}, 0)
	}
}

// results are those of all functions for some arguments.
type results struct {
	i      uint64
	p      point
	scaled uint32
	rows   []int
	ranges [][2]uint64
	errs   [4]api.Errno
}

func callAll(l []api.Row, order int) (x results) {
	x.i, x.errs[0] = hilbert.Index(order, uint32(len(l)), uint32(order))
	x.p[0], x.p[1], x.errs[1] = hilbert.Point(order, uint64(len(l)*order))
	x.scaled = hilbert.Scale(int64(order), -5, int64(len(l)), order)
	x.rows, x.errs[2] = hilbert.Order(l, [2]int{1, 2}, order)
	x.ranges, x.errs[3] = hilbert.Cover(order, [4]uint32{0, 1, uint32(order), uint32(len(l))})
	return x
}

func same(x, y results) bool {
	return x.i == y.i && x.p == y.p && x.scaled == y.scaled && slices.Equal(x.rows, y.rows) && slices.Equal(x.ranges, y.ranges) && x.errs == y.errs
}

// P2: the same arguments have the same results, in any order of calls, and at the same time.
func TestCallsAtTheSameTime(t *testing.T) {
	all := samples()
	var want []results
	for i, l := range all {
		want = append(want, callAll(l, i+1), callAll(l, 17-i))
	}
	var wait sync.WaitGroup
	for n := range 8 {
		wait.Go(func() {
			for k := range all {
				i := (k*(n+2) + n) % len(all)
				if !same(callAll(all[i], i+1), want[2*i]) || !same(callAll(all[i], 17-i), want[2*i+1]) {
					t.Errorf("other results for %v", all[i])
				}
			}
		})
	}
	wait.Wait()
}

// P1: all functions return for arguments that are very large, and for results that are.
func TestLargeArguments(t *testing.T) {
	l := make([]api.Row, 1<<18)
	for i := range l {
		// From the last index of the order 9 to the first one.
		p := pointOf(t, 9, count(9)-1-uint64(i))
		l[i] = row(cell(1, int64(p[0])), cell(2, int64(p[1])))
	}
	rows, err := hilbert.Order(l, [2]int{1, 2}, 9)
	if err != api.OK || len(rows) != len(l) {
		t.Fatalf("Order returns %d rows, %v", len(rows), err)
	}
	for at, i := range rows {
		if at+i != len(l)-1 {
			t.Fatalf("Order has the row %d at %d", i, at)
		}
	}
	wide := make([]api.Cell, 1<<20)
	for i := range wide {
		wide[i] = cell(3, int64(i))
	}
	arranges(t, []api.Row{row(append(wide, cell(1, 5))...), row(cell(1, 4)), row(wide...)}, [2]int{1, 2}, 16, 1, 2, 0)
	// These have very many ranges: rows, a column, and all points but those at the sides.
	r := rand.New(rand.NewSource(16))
	for _, w := range [][4]uint32{{0, 0, 65535, 0}, {0, 32768, 65535, 32768}, {21845, 0, 21845, 65535}, {1, 1, 65534, 65534}} {
		ranges := cover(t, 16, w)
		if len(ranges) < 10000 {
			t.Errorf("Cover(16, %v) has only %d ranges", w, len(ranges))
		}
		isCover(t, r, 16, w, ranges)
	}
	for _, order := range []int{math.MinInt, math.MaxInt} {
		orderFails(t, l, [2]int{math.MinInt, math.MaxInt}, order)
		coverFails(t, order, [4]uint32{math.MaxUint32, math.MaxUint32, math.MaxUint32, math.MaxUint32})
		indexFails(t, order, math.MaxUint32, math.MaxUint32)
		pointFails(t, order, math.MaxUint64)
		scales(t, greatest, least, greatest, order, 0)
	}
}
