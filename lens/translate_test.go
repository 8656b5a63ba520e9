package lens_test

import (
	"math"
	"math/rand"
	"slices"
	"testing"

	"fenland/api"
	"fenland/lens"
)

// history are changes of every kind that follow one another.
func history() []api.Change {
	return []api.Change{
		adding("g", api.Nest, 0),
		adding("a", api.Text, 0),
		adding("b", api.Text, 1),
		adding("n", api.Small, 0),
		splitting(2, "-"), // into 5 and 6
		moving(3, 0),
		widening(4),
		{Kind: api.JoinFields, ID: 6, With: 3, Name: "w", Sep: "+"}, // into 7
		renaming(5, "c"),
		dropping(4),
		{Kind: api.SplitField, ID: 7, Name: "d", Other: "e", Sep: "+"}, // into 8 and 9
		adding("f", api.Day, 1),
	}
}

// stations is what becomes of a row on the way forward, by how many changes led to its schema.
func stations() map[int]api.Row {
	joined := row(number(4, -5), text(5, "p"), text(7, "q-r+s"))
	split := row(text(3, "s"), number(4, -5), text(5, "p"), text(6, "q-r"))
	return map[int]api.Row{
		4:  row(text(2, "p-q-r"), text(3, "s"), number(4, -5)),
		5:  split,
		6:  split,
		7:  split,
		8:  joined,
		9:  joined,
		10: row(text(5, "p"), text(7, "q-r+s")),
		11: row(text(5, "p"), text(8, "q-r"), text(9, "s")),
		12: row(text(5, "p"), text(8, "q-r"), text(9, "s")),
	}
}

// translated compares what Translate returns with a row, or with an error.
func translated(t *testing.T, l []api.Change, r api.Row, w [2]int, want api.Row, wantErr api.Errno) {
	t.Helper()
	if got, err := lens.Translate(l, r, w); !same(got, want) || err != wantErr {
		t.Errorf("Translate of %v, %v, along %d changes = %v, %v instead of %v, %v", r, w, len(l), got, err, want, wantErr)
	}
}

// P7.1, A3: a row at every position, forward and back. What was dropped does not come back.
func TestTranslate(t *testing.T) {
	l := history()
	for from, x := range stations() {
		for to, want := range stations() {
			if from >= 10 && to < 10 {
				want = row(slices.DeleteFunc(slices.Clone(want.Cells), func(c api.Cell) bool { return c.ID == 4 })...)
			}
			translated(t, l, x, [2]int{from, to}, want, api.OK)
		}
		translated(t, l, x, [2]int{from, 0}, api.Row{}, api.OK)
		translated(t, l, x, [2]int{from, 1}, api.Row{}, api.OK)
	}
	x := row(text(2, "p-q"), text(3, "s"))
	translated(t, l, x, [2]int{3, 2}, row(text(2, "p-q")), api.OK)
	translated(t, l, row(number(4, 1<<31)), [2]int{7, 6}, api.Row{}, api.OK)
	translated(t, l, row(number(4, 1<<31)), [2]int{7, 7}, row(number(4, 1<<31)), api.OK)
	translated(t, l, row(text(9, "s")), [2]int{12, 4}, row(text(2, "-"), text(3, "s")), api.OK)
}

// P7.1, A3: rows without cells, and no changes.
func TestTranslateEmpty(t *testing.T) {
	for _, l := range [][]api.Change{nil, {}} {
		for _, r := range []api.Row{{}, {Cells: []api.Cell{}}} {
			translated(t, l, r, [2]int{0, 0}, api.Row{}, api.OK)
		}
		translated(t, l, row(text(1, "")), [2]int{0, 0}, api.Row{}, api.ErrType)
		for _, w := range [][2]int{{0, 1}, {1, 0}, {-1, 0}, {0, -1}, {1, 1}, {-1, -1}} {
			translated(t, l, api.Row{}, w, api.Row{}, api.ErrArg)
		}
	}
	for from := range len(history()) + 1 {
		for to := range len(history()) + 1 {
			translated(t, history(), api.Row{}, [2]int{from, to}, api.Row{}, api.OK)
		}
	}
}

// P7.1, A3: rows that fit the schema at one position only.
func TestTranslateRowsThatDoNotFit(t *testing.T) {
	l := history()
	at4, at5, at8, at12 := stations()[4], stations()[5], stations()[8], stations()[12]
	for _, x := range []struct {
		r  api.Row
		at int // where it fits
		to int
	}{{at4, 4, 5}, {at5, 5, 4}, {at5, 7, 8}, {at8, 8, 7}, {at8, 9, 10}, {at12, 11, 10}, {at12, 12, 0}, {at4, 4, 12}} {
		for _, from := range []int{x.at, x.to} {
			for _, to := range []int{x.at, x.to} {
				want := api.ErrType
				if from == x.at {
					want = api.OK
				}
				if _, err := lens.Translate(l, x.r, [2]int{from, to}); err != want {
					t.Errorf("Translate of %v from %d to %d: %v instead of %v", x.r, from, to, err, want)
				}
			}
		}
	}
	wide := row(number(4, 1<<31))
	translated(t, l, wide, [2]int{6, 7}, api.Row{}, api.ErrType)
	translated(t, l, wide, [2]int{6, 6}, api.Row{}, api.ErrType)
	translated(t, l, wide, [2]int{7, 9}, wide, api.OK)
	for _, x := range spoilt(at12) {
		for _, w := range [][2]int{{12, 12}, {12, 4}, {11, 12}} {
			translated(t, l, x, w, api.Row{}, api.ErrType)
		}
	}
}

// P7.1, A3: positions that are no positions, alone and in pairs.
func TestTranslatePositions(t *testing.T) {
	l := history()
	n := len(l)
	for _, bad := range []int{math.MinInt, -n, -2, -1, n + 1, n + 2, 1 << 32, math.MaxInt} {
		for _, other := range []int{math.MinInt, -1, 0, 4, n, n + 1, math.MaxInt} {
			for _, r := range []api.Row{{}, stations()[4], stations()[12]} {
				translated(t, l, r, [2]int{bad, other}, api.Row{}, api.ErrArg)
				translated(t, l, r, [2]int{other, bad}, api.Row{}, api.ErrArg)
			}
		}
	}
	translated(t, l, api.Row{}, [2]int{0, n}, api.Row{}, api.OK)
	translated(t, l, stations()[n], [2]int{n, n}, stations()[n], api.OK)
}

// failing are changes that are not possible after any number of those of history, with the errors of schema.After.
func failing() map[api.Errno]api.Change {
	return map[api.Errno]api.Change{
		api.ErrArg:   {Kind: 8},
		api.ErrType:  {Kind: api.AddField, Name: "x"},
		api.ErrName:  {Kind: api.AddField, Name: "X", Type: api.Int},
		api.ErrField: dropping(99),
	}
}

// P7.1, A3: a change that is not possible, at each position before the larger one and from there on.
func TestTranslateImpossible(t *testing.T) {
	for err, c := range failing() {
		for at := range len(history()) + 1 {
			l := slices.Insert(history(), at, c)
			for from := range len(l) + 1 {
				for to := range len(l) + 1 {
					want := api.OK
					if max(from, to) > at {
						want = err
					}
					translated(t, l, api.Row{}, [2]int{from, to}, api.Row{}, want)
				}
			}
		}
	}
	l := append(history(), dropping(4))
	for _, x := range []struct {
		c   api.Change
		err api.Errno
	}{{widening(10), api.ErrWiden}, {moving(1, 1), api.ErrParent}, {dropping(1), api.ErrParent},
		{splitting(5, ""), api.ErrArg},
		{joining(5, 10, "-"), api.ErrType}} {
		l[12] = x.c
		at12, at13 := [2]int{4, 12}, [2]int{4, 13}
		translated(t, l, stations()[4], at12, stations()[12], api.OK)
		translated(t, l, stations()[4], at13, api.Row{}, x.err)
		translated(t, l, stations()[12], [2]int{12, 12}, stations()[12], api.OK)
		translated(t, l, stations()[12], [2]int{13, 12}, api.Row{}, x.err)
		translated(t, l, stations()[12], [2]int{13, 13}, api.Row{}, x.err)
	}
}

// P7.1, A3: the first change that is not possible counts.
func TestTranslateFirstImpossible(t *testing.T) {
	for err, first := range failing() {
		for _, second := range failing() {
			for at := range 5 {
				l := slices.Insert(slices.Insert(history(), 4, second), at, first)
				for _, w := range [][2]int{{0, 14}, {14, 0}, {14, 14}, {0, 6}, {6, 0}, {6, 6}, {3, 6}, {6, 3}, {5, 6}, {6, 5}} {
					translated(t, l, api.Row{}, w, api.Row{}, err)
				}
			}
		}
	}
}

// P7.1, A3: each error alone, each pair of errors, and all three: the first one in the order of A3 counts.
func TestTranslateOrderOfErrors(t *testing.T) {
	for err, c := range failing() {
		bad := slices.Insert(history(), 6, c)
		fitting, other := stations()[4], row(text(99, ""))
		for _, x := range []struct {
			l    []api.Change
			r    api.Row
			w    [2]int
			want api.Errno
		}{
			{history(), fitting, [2]int{4, 6}, api.OK},
			{bad, fitting, [2]int{4, 6}, api.OK},
			{history(), fitting, [2]int{4, 13}, api.ErrArg},
			{history(), fitting, [2]int{4, -1}, api.ErrArg},
			{bad, fitting, [2]int{4, 7}, err},
			{history(), other, [2]int{4, 7}, api.ErrType},
			{history(), other, [2]int{7, 4}, api.ErrType},
			{bad, fitting, [2]int{4, 14}, api.ErrArg},
			{bad, fitting, [2]int{14, 4}, api.ErrArg},
			{bad, fitting, [2]int{13, -1}, api.ErrArg},
			{bad, fitting, [2]int{-1, 13}, api.ErrArg},
			{history(), other, [2]int{4, 13}, api.ErrArg},
			{history(), other, [2]int{4, -1}, api.ErrArg},
			{history(), other, [2]int{-1, 4}, api.ErrArg},
			{bad, other, [2]int{4, 7}, err},
			{bad, other, [2]int{7, 4}, err},
			{bad, other, [2]int{7, 7}, err},
			{bad, other, [2]int{4, 14}, api.ErrArg},
			{bad, other, [2]int{13, -1}, api.ErrArg},
		} {
			if got, err := lens.Translate(x.l, x.r, x.w); err != x.want || err != api.OK && len(got.Cells) > 0 {
				t.Errorf("Translate of %v, %v = %v, %v instead of %v", x.r, x.w, got, err, x.want)
			}
		}
	}
}

// P7.1, A3: any changes, with and without one that is not possible, and any rows and positions.
func TestTranslateAny(t *testing.T) {
	r := rand.New(rand.NewSource(4))
	errors := map[api.Errno]int{}
	for range 60 {
		l, path := anyHistory(r, 1+r.Intn(20))
		if r.Intn(2) == 0 {
			l = slices.Insert(l, r.Intn(len(l)+1), anyChange(r, path[0]))
		}
		for range 60 {
			x := anyRow(r, pick(r, path))
			w := [2]int{r.Intn(len(l)+3) - 1, r.Intn(len(l)+3) - 1}
			want, err := wantTranslate(l, x, w)
			translated(t, l, x, w, want, err)
			errors[err]++
		}
	}
	for _, err := range []api.Errno{api.OK, api.ErrArg, api.ErrType, api.ErrField} {
		if errors[err] < 50 {
			t.Errorf("%v occurs only %d times", err, errors[err])
		}
	}
}
