package lens_test

import (
	"math"
	"math/rand"
	"slices"
	"strconv"
	"strings"

	"fenland/api"
	"fenland/schema"
)

// next is the number of the first field that a change adds to people.
const next = 20

// people is a schema with texts inside and outside of a group, with other fields before, between and behind them, and
// with numbers that are not in use any more.
func people() api.Schema {
	return api.Schema{Next: next, Fields: []api.Field{
		{ID: 2, Name: "o", Type: api.Bool},
		{ID: 3, Name: "g", Type: api.Nest},
		{ID: 4, Name: "a", Type: api.Text},
		{ID: 6, Name: "m", Type: api.Small, Parent: 3},
		{ID: 7, Name: "b", Type: api.Text},
		{ID: 9, Name: "i", Type: api.Int},
		{ID: 10, Name: "a", Type: api.Text, Parent: 3},
		{ID: 12, Name: "d", Type: api.Day},
		{ID: 13, Name: "q", Type: api.Text, Parent: 3},
		{ID: 15, Name: "n", Type: api.Small},
		{ID: 16, Name: "empty", Type: api.Nest},
		{ID: 17, Name: "c", Type: api.Text},
		{ID: 18, Name: "z", Type: api.Int},
	}}
}

// everybody is a row under people in which no field is null.
func everybody() api.Row {
	return row(number(2, 1), text(4, "a-b"), number(6, -6), text(7, ""), number(9, math.MinInt64), text(10, "-x-"),
		number(12, 1000000), text(13, "y"), number(15, math.MaxInt32), text(17, strings.Repeat("c", 200)), number(18, 0))
}

func text(id int, s string) api.Cell { return api.Cell{ID: id, V: api.Value{S: s}} }

func number(id int, n int64) api.Cell { return api.Cell{ID: id, V: api.Value{N: n}} }

func row(cells ...api.Cell) api.Row { return api.Row{Cells: cells} }

// same tells whether two rows are equal, nil and empty slices being interchangeable.
func same(a, b api.Row) bool { return slices.Equal(a.Cells, b.Cells) }

func adding(name string, typ, parent int) api.Change {
	return api.Change{Kind: api.AddField, Name: name, Type: typ, Parent: parent}
}

func dropping(id int) api.Change { return api.Change{Kind: api.DropField, ID: id} }

func renaming(id int, name string) api.Change {
	return api.Change{Kind: api.RenameField, ID: id, Name: name}
}

func widening(id int) api.Change { return api.Change{Kind: api.WidenField, ID: id} }

func moving(id, parent int) api.Change {
	return api.Change{Kind: api.MoveField, ID: id, Parent: parent}
}

func splitting(id int, sep string) api.Change {
	return api.Change{Kind: api.SplitField, ID: id, Name: "x", Other: "y", Sep: sep}
}

func joining(id, with int, sep string) api.Change {
	return api.Change{Kind: api.JoinFields, ID: id, With: with, Name: "x", Sep: sep}
}

// after is the schema after a change that is possible.
func after(s api.Schema, c api.Change) api.Schema {
	to, err := schema.Apply(s, c)
	if err != api.OK {
		panic("not possible: " + strconv.Itoa(c.Kind))
	}
	return to
}

// possible are changes of people of every kind, to fields everywhere in it.
func possible() []api.Change {
	var l []api.Change
	for typ := api.Bool; typ <= api.Nest; typ++ {
		l = append(l, adding("new", typ, 0), adding("new", typ, 3))
	}
	for _, f := range people().Fields {
		l = append(l, dropping(f.ID), renaming(f.ID, "new"), widening(f.ID), moving(f.ID, 0), moving(f.ID, 3), moving(f.ID, 16))
	}
	for _, sep := range []string{"-", "--", "aba", dashes(16)} {
		for _, id := range []int{4, 7, 10, 13, 17} {
			l = append(l, splitting(id, sep))
		}
		for _, ids := range [][2]int{{4, 7}, {4, 17}, {7, 17}, {10, 13}} {
			l = append(l, joining(ids[0], ids[1], sep), joining(ids[1], ids[0], sep))
		}
	}
	return slices.DeleteFunc(l, func(c api.Change) bool {
		_, err := schema.Apply(people(), c)
		return err != api.OK
	})
}

// pick returns any element.
func pick[T any](r *rand.Rand, l []T) T { return l[r.Intn(len(l))] }

var pieces = []string{"-", "-", "--", "aba", "ab", "a", "b", "+", "é", "\x00", "\xff"}

// anyText is a text in which separators are frequent, and which is often close to the greatest length.
func anyText(r *rand.Rand) string {
	s := ""
	for range r.Intn(6) {
		s += pick(r, pieces)
	}
	if r.Intn(4) > 0 {
		return s
	}
	long := strings.Repeat(pick(r, pieces), 200) + s
	return long[len(long)-200+r.Intn(20):]
}

// anyRow is a row that fits a schema.
func anyRow(r *rand.Rand, s api.Schema) api.Row {
	var to api.Row
	for _, id := range schema.Leaves(s) {
		c := text(id, anyText(r))
		switch f, _ := schema.Field(s, id); f.Type {
		case api.Bool:
			c = number(id, r.Int63n(2))
		case api.Small:
			c = number(id, pick(r, []int64{math.MinInt32, -1, 0, math.MaxInt32}))
		case api.Int:
			c = number(id, pick(r, []int64{math.MinInt32, math.MinInt32 - 1, 0, math.MaxInt32, math.MaxInt32 + 1}))
		case api.Day:
			c = number(id, pick(r, []int64{-1000000, 0, 1000000}))
		}
		if r.Intn(3) > 0 {
			to.Cells = append(to.Cells, c)
		}
	}
	return to
}

// someRows are rows that fit a schema: without cells, with one cell each, and others.
func someRows(r *rand.Rand, s api.Schema, n int) []api.Row {
	l := []api.Row{{}}
	for range n {
		l = append(l, anyRow(r, s))
		for _, c := range anyRow(r, s).Cells {
			if r.Intn(4) == 0 {
				l = append(l, row(c))
			}
		}
	}
	return l
}

// anyChange is a change that is often possible.
func anyChange(r *rand.Rand, s api.Schema) api.Change {
	ids, groups := []int{0}, []int{0, 0}
	for _, f := range s.Fields {
		ids = append(ids, f.ID)
		if f.Type == api.Nest {
			groups = append(groups, f.ID)
		}
	}
	name := func() string { return "f" + strconv.Itoa(r.Intn(40)) }
	// Most pairs of fields can't be joined.
	kind := pick(r, []int{1, 2, 3, 4, 4, 4, 5, 6, 6, 6, 7, 7, 7, 7, 7, 7, 7, 7, 7, 7, 7, 7, 7, 7})
	return api.Change{Kind: kind, ID: pick(r, ids), With: pick(r, ids), Name: name(), Other: name(),
		Type: pick(r, []int{1, 2, 2, 3, 4, 4, 4, 5, 6}), Parent: pick(r, groups), Sep: pick(r, pieces)}
}

// anyHistory is n changes that follow one another, with the schemas before, between and behind them.
func anyHistory(r *rand.Rand, n int) ([]api.Change, []api.Schema) {
	var l []api.Change
	path := []api.Schema{schema.New()}
	for len(l) < n {
		s := path[len(l)]
		c := anyChange(r, s)
		if to, err := schema.Apply(s, c); err == api.OK && (len(l) >= n/4 || c.Kind == api.AddField) {
			l, path = append(l, c), append(path, to)
		}
	}
	return l, path
}
