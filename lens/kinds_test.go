package lens_test

import (
	"math"
	"math/rand"
	"slices"
	"strconv"
	"strings"
	"testing"

	"fenland/api"
	"fenland/lens"
	"fenland/schema"
)

// goes compares what becomes of a row on the way forward with another row.
func goes(t *testing.T, s api.Schema, c api.Change, before, want api.Row) {
	t.Helper()
	if got := lens.Forward(s, c, before); !same(got, want) {
		t.Errorf("Forward of %+v: %v becomes %v instead of %v", c, before, got, want)
	}
}

// comes compares what becomes of a row on the way back with another row.
func comes(t *testing.T, s api.Schema, c api.Change, after, want api.Row) {
	t.Helper()
	if got := lens.Back(s, c, after); !same(got, want) {
		t.Errorf("Back of %+v: %v becomes %v instead of %v", c, after, got, want)
	}
}

// P7.1, A1, A2 and A4: the examples.
func TestExamples(t *testing.T) {
	s := api.Schema{Next: 3, Fields: []api.Field{{ID: 1, Name: "a", Type: api.Text}, {ID: 2, Name: "b", Type: api.Text}}}
	split, join := splitting(1, "-"), joining(1, 2, "-")
	goes(t, s, split, row(text(1, "a-b-c")), row(text(3, "a"), text(4, "b-c")))
	comes(t, s, split, row(text(3, "a")), row(text(1, "a")))
	goes(t, s, join, row(text(2, "x")), row(text(3, "-x")))
	comes(t, s, join, row(text(3, "-x")), row(text(1, ""), text(2, "x")))
	if lens.Lossless(s, join, row(text(2, "x"))) {
		t.Error("joining is lossless where the first value is null")
	}
}

// P7.1, A1 and A2: changes of which Forward and Back keep every cell.
func TestSameRow(t *testing.T) {
	for _, x := range []api.Row{{}, everybody(), row(text(4, "a-b")), row(number(18, 5)), row(number(6, 1), text(7, ""))} {
		for _, c := range []api.Change{renaming(4, "new"), renaming(3, "new"), renaming(7, "b"), moving(4, 16), moving(6, 0),
			moving(3, 16), moving(16, 3), moving(18, 3), moving(7, 0), dropping(16), widening(6), widening(15),
			adding("new", api.Nest, 0)} {
			goes(t, people(), c, x, x)
			comes(t, people(), c, x, x)
		}
	}
}

// P7.1, A1 and A2: AddField.
func TestAddField(t *testing.T) {
	for typ, v := range map[int]api.Value{api.Bool: {N: 1}, api.Small: {N: -1 << 31}, api.Int: {N: math.MaxInt64},
		api.Text: {S: "a"}, api.Day: {N: -1000000}} {
		fresh := api.Cell{ID: next, V: v}
		for _, parent := range []int{0, 3, 16} {
			c := adding("new", typ, parent)
			for _, x := range []api.Row{{}, everybody(), row(text(4, "p")), row(number(18, 5))} {
				goes(t, people(), c, x, x)
				comes(t, people(), c, x, x)
				comes(t, people(), c, row(append(slices.Clone(x.Cells), fresh)...), x)
			}
			goes(t, people(), c, row(text(4, "p"), fresh), api.Row{})
		}
	}
	zero := api.Cell{ID: 1}
	comes(t, schema.New(), adding("a", api.Bool, 0), row(zero), api.Row{})
	comes(t, schema.New(), adding("a", api.Text, 0), row(zero), api.Row{})
}

// P7.1, A1 and A2: DropField, of each leaf, with a value and with null, with and without cells before and behind it.
func TestDropField(t *testing.T) {
	all := everybody().Cells
	for i, c := range all {
		before, behind := all[:i], all[i+1:]
		drop := dropping(c.ID)
		for _, x := range [][2][]api.Cell{{before, behind}, {nil, behind}, {before, nil}, {nil, nil}} {
			without := row(slices.Concat(x[0], x[1])...)
			goes(t, people(), drop, row(slices.Concat(x[0], []api.Cell{c}, x[1])...), without)
			goes(t, people(), drop, without, without)
			comes(t, people(), drop, without, without)
			comes(t, people(), drop, row(slices.Concat(x[0], []api.Cell{c}, x[1])...), api.Row{})
		}
	}
}

// P7.1, A1 and A2: WidenField at the bounds, with and without cells before and behind it.
func TestWidenField(t *testing.T) {
	for n, fits := range map[int64]bool{math.MinInt64: false, -1<<31 - 1: false, -1 << 31: true, -1: true, 0: true,
		1: true, 1<<31 - 1: true, 1 << 31: false, 1 << 32: false, math.MaxInt64: false} {
		before, behind := []api.Cell{number(2, 0), text(4, "a")}, []api.Cell{text(7, "b"), number(9, n), number(18, n)}
		for _, x := range [][2][]api.Cell{{before, behind}, {nil, behind}, {before, nil}, {nil, nil}} {
			without := row(slices.Concat(x[0], x[1])...)
			with := row(slices.Concat(x[0], []api.Cell{number(6, n)}, x[1])...)
			if fits {
				goes(t, people(), widening(6), with, with)
				comes(t, people(), widening(6), with, with)
			} else {
				goes(t, people(), widening(6), with, api.Row{})
				comes(t, people(), widening(6), with, without)
			}
			goes(t, people(), widening(6), without, without)
			comes(t, people(), widening(6), without, without)
		}
	}
}

// P7.1, A1 and A2: SplitField, with null in each field, with and without cells before, between and behind the fields.
func TestSplitField(t *testing.T) {
	for _, x := range []struct {
		id            int
		before, after api.Row
	}{
		{7, api.Row{}, api.Row{}},
		{7, row(text(7, "p-q")), row(text(20, "p"), text(21, "q"))},
		{7, row(text(7, "p")), row(text(20, "p"))},
		{7, row(text(7, "")), row(text(20, ""))},
		{7, row(text(7, "-")), row(text(20, ""), text(21, ""))},
		{7, row(text(4, "-"), text(17, "-")), row(text(4, "-"), text(17, "-"))},
		{7, row(text(4, "a-"), text(7, "p-q")), row(text(4, "a-"), text(20, "p"), text(21, "q"))},
		{7, row(text(7, "p-q"), number(18, 1)), row(number(18, 1), text(20, "p"), text(21, "q"))},
		{7, row(number(2, 1), text(4, "a"), text(7, "p-q"), number(9, 5), text(17, "c-")),
			row(number(2, 1), text(4, "a"), number(9, 5), text(17, "c-"), text(20, "p"), text(21, "q"))},
		{7, row(number(6, 1), text(7, "pq"), number(9, 5)), row(number(6, 1), number(9, 5), text(20, "pq"))},
		{4, row(text(4, "p-q"), text(7, "-")), row(text(7, "-"), text(20, "p"), text(21, "q"))},
		{17, row(text(13, "-"), text(17, "p-q"), number(18, 9)),
			row(text(13, "-"), number(18, 9), text(20, "p"), text(21, "q"))},
		{10, row(text(4, "a-b"), text(10, "p-q")), row(text(4, "a-b"), text(20, "p"), text(21, "q"))},
	} {
		c := splitting(x.id, "-")
		goes(t, people(), c, x.before, x.after)
		comes(t, people(), c, x.after, x.before)
	}
	// Rows that do not come from Forward.
	for _, x := range []struct{ after, before api.Row }{
		{row(text(21, "q")), row(text(7, "-q"))},
		{row(text(21, "")), row(text(7, "-"))},
		{row(text(20, "p-q")), row(text(7, "p-q"))},
		{row(text(20, "p-q"), text(21, "r")), row(text(7, "p-q-r"))},
		{row(text(4, "a"), number(18, 1), text(21, "q")), row(text(4, "a"), text(7, "-q"), number(18, 1))},
	} {
		comes(t, people(), splitting(7, "-"), x.after, x.before)
	}
}

// P7.1, A1 and A2: JoinFields in both orders, with null in each field, with and without cells before, between and behind
// the fields.
func TestJoinFields(t *testing.T) {
	for _, x := range []struct {
		id, with            int
		before, after, back api.Row
	}{
		{4, 17, api.Row{}, api.Row{}, api.Row{}},
		{4, 17, row(text(4, "p"), text(17, "q")), row(text(20, "p-q")), row(text(4, "p"), text(17, "q"))},
		{17, 4, row(text(4, "p"), text(17, "q")), row(text(20, "q-p")), row(text(4, "p"), text(17, "q"))},
		{4, 17, row(text(4, "p")), row(text(20, "p-")), row(text(4, "p"), text(17, ""))},
		{17, 4, row(text(4, "p")), row(text(20, "-p")), row(text(4, "p"), text(17, ""))},
		{4, 17, row(text(17, "q")), row(text(20, "-q")), row(text(4, ""), text(17, "q"))},
		{17, 4, row(text(17, "q")), row(text(20, "q-")), row(text(4, ""), text(17, "q"))},
		{4, 17, row(text(4, ""), text(17, "")), row(text(20, "-")), row(text(4, ""), text(17, ""))},
		{4, 17, row(text(4, "")), row(text(20, "-")), row(text(4, ""), text(17, ""))},
		{4, 17, row(text(17, "")), row(text(20, "-")), row(text(4, ""), text(17, ""))},
		{7, 17, row(text(4, "p")), row(text(4, "p")), row(text(4, "p"))},
		{4, 17, row(number(2, 1), text(4, "p"), text(7, "-"), number(9, 9), text(17, "q"), number(18, 8)),
			row(number(2, 1), text(7, "-"), number(9, 9), number(18, 8), text(20, "p-q")),
			row(number(2, 1), text(4, "p"), text(7, "-"), number(9, 9), text(17, "q"), number(18, 8))},
		{17, 4, row(number(2, 1), text(4, "p"), text(7, "-"), text(17, "q"), number(18, 8)),
			row(number(2, 1), text(7, "-"), number(18, 8), text(20, "q-p")),
			row(number(2, 1), text(4, "p"), text(7, "-"), text(17, "q"), number(18, 8))},
		{10, 13, row(text(7, "a"), number(12, 5)), row(text(7, "a"), number(12, 5)), row(text(7, "a"), number(12, 5))},
		{10, 13, row(text(4, "a"), text(10, "p"), number(12, 5), text(13, "q")),
			row(text(4, "a"), number(12, 5), text(20, "p-q")),
			row(text(4, "a"), text(10, "p"), number(12, 5), text(13, "q"))},
		{4, 7, row(text(7, "q"), text(17, "r")), row(text(17, "r"), text(20, "-q")),
			row(text(4, ""), text(7, "q"), text(17, "r"))},
	} {
		c := joining(x.id, x.with, "-")
		goes(t, people(), c, x.before, x.after)
		comes(t, people(), c, x.after, x.back)
	}
	// Rows that do not come from Forward.
	comes(t, people(), joining(4, 17, "-"), row(text(20, "pq")), row(text(4, "pq")))
	comes(t, people(), joining(17, 4, "-"), row(number(2, 0), text(20, "")), row(number(2, 0), text(17, "")))
}

// P7.1, A1 and A2: the greatest numbers that fields have.
func TestGreatestNumbers(t *testing.T) {
	const greatest = 1<<30 - 1
	s := people()
	s.Next = greatest
	comes(t, s, adding("new", api.Text, 0), row(text(18, "p"), text(greatest, "q")), api.Row{})
	comes(t, s, adding("new", api.Text, 0), row(text(17, "p"), text(greatest, "q")), row(text(17, "p")))
	goes(t, s, joining(4, 17, "-"), row(text(4, "p"), text(17, "q")), row(text(greatest, "p-q")))
	comes(t, s, joining(4, 17, "-"), row(text(greatest, "p-q")), row(text(4, "p"), text(17, "q")))
	s.Next = greatest - 1
	goes(t, s, splitting(4, "-"), row(text(4, "p-q")), row(text(greatest-1, "p"), text(greatest, "q")))
	comes(t, s, splitting(4, "-"), row(text(greatest-1, "p"), text(greatest, "q")), row(text(4, "p-q")))
}

// impossible are schemas and changes that are not possible for them, with the errors of schema.Apply.
func impossible() []struct {
	s   api.Schema
	c   api.Change
	err api.Errno
} {
	full, late := people(), people()
	for id := next; len(full.Fields) < api.MaxFields; id++ {
		full.Fields = append(full.Fields, api.Field{ID: id, Name: "f" + strconv.Itoa(id), Type: api.Int})
		full.Next = id + 1
	}
	late.Next = 1 << 30
	s := people()
	taken, equal := splitting(4, "-"), splitting(4, "-")
	taken.Other, equal.Other = "b", "x"
	joined := joining(4, 7, "-")
	joined.Name = "c"
	long := strings.Repeat("-", 17)
	return []struct {
		s   api.Schema
		c   api.Change
		err api.Errno
	}{
		{s, api.Change{}, api.ErrArg}, {s, api.Change{Kind: 8, ID: 4, Name: "x"}, api.ErrArg},
		{s, api.Change{Kind: -1}, api.ErrArg},
		{s, adding("x", 7, 0), api.ErrType}, {s, adding("x", api.Int, 4), api.ErrParent},
		{s, adding("a", api.Int, 0), api.ErrName},
		{full, adding("x", api.Text, 0), api.ErrBig}, {late, adding("x", api.Text, 0), api.ErrBig},
		{s, dropping(5), api.ErrField}, {s, dropping(next), api.ErrField}, {s, dropping(3), api.ErrParent},
		{s, renaming(5, "x"), api.ErrField}, {s, renaming(4, "b"), api.ErrName}, {s, renaming(4, "B"), api.ErrName},
		{s, widening(5), api.ErrField}, {s, widening(9), api.ErrWiden}, {s, widening(4), api.ErrWiden},
		{s, moving(5, 0), api.ErrField}, {s, moving(4, 7), api.ErrParent}, {s, moving(3, 3), api.ErrParent},
		{s, moving(4, 3), api.ErrName},
		{s, splitting(5, "-"), api.ErrField}, {s, splitting(9, "-"), api.ErrType}, {s, splitting(3, "-"), api.ErrType},
		{s, splitting(4, ""), api.ErrArg}, {s, splitting(4, long), api.ErrArg}, {s, taken, api.ErrName},
		{s, equal, api.ErrName},
		{full, splitting(4, "-"), api.ErrBig}, {late, splitting(4, "-"), api.ErrBig},
		{s, joining(5, 4, "-"), api.ErrField}, {s, joining(4, 5, "-"), api.ErrField}, {s, joining(4, 4, "-"), api.ErrField},
		{s, joining(4, 9, "-"), api.ErrType}, {s, joining(9, 4, "-"), api.ErrType}, {s, joining(4, 10, "-"), api.ErrParent},
		{s, joining(4, 7, ""), api.ErrArg}, {s, joining(4, 7, long), api.ErrArg}, {s, joined, api.ErrName},
		{late, joining(4, 7, "-"), api.ErrBig},
	}
}

// P7.1, A1, A2 and A4: changes that are not possible, also for rows without cells.
func TestImpossibleChanges(t *testing.T) {
	for _, x := range impossible() {
		if _, err := schema.Apply(x.s, x.c); err != x.err {
			t.Fatalf("schema.Apply of %+v: %v", x.c, err)
		}
		for _, before := range []api.Row{{}, everybody(), row(text(4, "a-b")), row(text(4, "p"), text(7, "q")),
			row(text(next, "p-q")), row(text(next, "p"), text(next+1, "q")), row(text(1<<30, "p")), row(number(9, 1))} {
			goes(t, x.s, x.c, before, api.Row{})
			comes(t, x.s, x.c, before, api.Row{})
			if lens.Lossless(x.s, x.c, before) {
				t.Errorf("%+v, which is not possible, is lossless for %v", x.c, before)
			}
		}
	}
}

// spoilt are rows that are like r, except for one thing by which they do not fit a schema without leaves 1 and 99.
func spoilt(r api.Row) []api.Row {
	var l []api.Row
	add := func(at, end int, cells ...api.Cell) {
		l = append(l, row(slices.Concat(r.Cells[:at], cells, r.Cells[end:])...))
	}
	all := len(r.Cells)
	for _, id := range []int{math.MinInt, -1, 0, 1} {
		add(0, 0, text(id, ""))
	}
	add(all, all, number(99, 1))
	add(all, all, api.Cell{ID: 99, V: api.Value{Null: true}})
	for i, c := range r.Cells {
		add(i, i, c)
		add(i, i+1, api.Cell{ID: c.ID, V: api.Value{Null: true}})
		add(i, i+1, api.Cell{ID: c.ID, V: api.Value{N: 1, S: "a"}})
		add(i, i+1, text(c.ID, strings.Repeat("a", 201)))
		if i > 0 {
			add(i-1, i+1, c, r.Cells[i-1])
		}
	}
	return l
}

// P7.1, A1, A2 and A4: rows that do not fit the schema from which they would be translated.
func TestRowsThatDoNotFit(t *testing.T) {
	r := rand.New(rand.NewSource(1))
	for _, c := range possible() {
		to := after(people(), c)
		for _, x := range spoilt(everybody()) {
			goes(t, people(), c, x, api.Row{})
			if lens.Lossless(people(), c, x) {
				t.Errorf("%+v is lossless for %v, which does not fit", c, x)
			}
		}
		for _, x := range spoilt(anyRow(r, to)) {
			comes(t, people(), c, x, api.Row{})
		}
		group := row(number(2, 1), text(3, ""), text(4, "a"))
		goes(t, people(), c, group, api.Row{})
		comes(t, people(), c, group, api.Row{})
	}
}

// P7.1, A1, A2 and A4: rows that fit the schema on one side of a change only.
func TestRowsOfOneSide(t *testing.T) {
	for _, x := range []struct {
		c             api.Change
		before, after api.Row
	}{
		{dropping(4), row(text(4, "a"), text(7, "b")), row(number(4, 1))},
		{splitting(4, "-"), row(text(4, "a-b")), row(text(20, "a"))},
		{splitting(4, "-"), row(text(4, "a-b"), text(7, "c")), row(text(7, "c"), text(21, "a"))},
		{joining(4, 17, "-"), row(text(4, "a")), row(text(20, "a-"))},
		{joining(4, 17, "-"), row(text(17, "a")), row(text(20, "-a"))},
		{joining(17, 4, "-"), row(text(4, "a")), row(text(7, "b"), text(20, "-a"))},
		{joining(17, 4, "-"), row(text(17, "a")), row(text(7, "b"), text(20, "a-"))},
		{adding("x", api.Text, 0), row(number(20, 1)), row(text(4, "a"), text(20, "b"))},
		{widening(6), row(text(6, "a")), row(number(6, 1<<31), text(7, "b"))},
	} {
		to := after(people(), x.c)
		if schema.Fits(people(), x.after) || schema.Fits(to, x.before) {
			t.Fatalf("%v and %v fit both schemas at %+v", x.before, x.after, x.c)
		}
		goes(t, people(), x.c, x.after, api.Row{})
		comes(t, people(), x.c, x.before, api.Row{})
		if lens.Lossless(people(), x.c, x.after) {
			t.Errorf("%+v is lossless for %v, which does not fit", x.c, x.after)
		}
	}
}

// P7.1, A1, A2 and A4: changes of every kind, with rows of which any cells are null.
func TestAnyRows(t *testing.T) {
	r := rand.New(rand.NewSource(2))
	kinds := map[int]int{}
	for _, c := range possible() {
		to := after(people(), c)
		kinds[c.Kind]++
		for _, x := range someRows(r, people(), 40) {
			goes(t, people(), c, x, wantForward(people(), c, x))
			comes(t, people(), c, x, wantBack(people(), c, x))
			if lens.Lossless(people(), c, x) != wantLossless(people(), c, x) {
				t.Errorf("%+v is lossless for %v: %v", c, x, !wantLossless(people(), c, x))
			}
		}
		for _, x := range someRows(r, to, 40) {
			goes(t, people(), c, x, wantForward(people(), c, x))
			comes(t, people(), c, x, wantBack(people(), c, x))
		}
	}
	for kind := api.AddField; kind <= api.JoinFields; kind++ {
		if kinds[kind] < 2 {
			t.Errorf("%d changes of the kind %d", kinds[kind], kind)
		}
	}
}
