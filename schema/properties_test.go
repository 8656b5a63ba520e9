package schema

import (
	"math/rand"
	"slices"
	"testing"

	"fenland/api"
)

// removes are the numbers of the fields that a change removes.
func removes(c api.Change) []int {
	switch c.Kind {
	case api.DropField, api.SplitField:
		return []int{c.ID}
	case api.JoinFields:
		return []int{c.ID, c.With}
	}
	return nil
}

// adds is how many fields a change adds.
func adds(c api.Change) int {
	switch c.Kind {
	case api.AddField, api.JoinFields:
		return 1
	case api.SplitField:
		return 2
	}
	return 0
}

// stays tells whether a field is the same one after a change, except for what the change may change.
func stays(before, after api.Field, c api.Change) bool {
	if before.ID == c.ID {
		switch c.Kind {
		case api.RenameField:
			before.Name = c.Name
		case api.WidenField:
			before.Type = api.Int
		case api.MoveField:
			before.Parent = c.Parent
		}
	}
	return before == after
}

// numbersKept tells whether the numbers of the fields that stay are the same ones after a change, and those of the new
// fields were never used, and adds them to those that were used.
func numbersKept(before, after api.Schema, c api.Change, used map[int]bool) bool {
	was, is := byID(before), byID(after)
	for id, f := range was {
		if slices.Contains(removes(c), id) {
			if _, ok := is[id]; ok {
				return false
			}
		} else if !stays(f, is[id], c) {
			return false
		}
	}
	fresh := 0
	for id := range is {
		if _, ok := was[id]; ok {
			continue
		}
		if used[id] || id < before.Next {
			return false
		}
		used[id] = true
		fresh++
	}
	for id := range used {
		if id >= after.Next {
			return false
		}
	}
	return fresh == adds(c) && after.Next == before.Next+fresh
}

// starts are schemas from which sequences of changes begin, with the numbers that were used.
func starts() []api.Schema {
	return []api.Schema{New(), New(), New(), mixed(), deep(), wide(60), withNext(mixed(), greatest-20),
		withNext(wide(60), greatest-20)}
}

// P6.2 and P6.3: every schema on the way of sequences of changes is valid, no number comes again, and a field that stays
// keeps its number.
func TestSequences(t *testing.T) {
	r := rand.New(rand.NewSource(7))
	kinds := map[int]int{}
	for range 25 {
		for _, s := range starts() {
			used := map[int]bool{}
			for _, f := range s.Fields {
				used[f.ID] = true
			}
			for range 250 {
				c := anyChange(r, s)
				after, err := Apply(s, c)
				if err != api.OK {
					if !same(after, api.Schema{}) {
						t.Fatalf("Apply(%+v, %+v) = %+v, %v", s, c, after, err)
					}
					continue
				}
				if !Valid(after) || !wantValid(after) {
					t.Fatalf("Apply(%+v, %+v) = %+v, which is not valid", s, c, after)
				}
				if !numbersKept(s, after, c, used) {
					t.Fatalf("Apply(%+v, %+v) = %+v, where the numbers are wrong", s, c, after)
				}
				kinds[c.Kind]++
				s = after
			}
		}
	}
	for kind := api.AddField; kind <= api.JoinFields; kind++ {
		if kinds[kind] < 100 {
			t.Errorf("only %d changes of the kind %d were possible", kinds[kind], kind)
		}
	}
}

// P6.2 and P6.3: single changes of all schemas.
func TestChangesKeepValidity(t *testing.T) {
	for _, s := range schemas() {
		for i, c := range grid(s) {
			if i%3 > 0 {
				continue
			}
			after, err := Apply(s, c)
			if err == api.OK && (!Valid(after) || !numbersKept(s, after, c, map[int]bool{})) {
				t.Fatalf("Apply(%+v, %+v) = %+v", s, c, after)
			}
		}
	}
}

// P6.5: rows that fit still fit after fields were renamed, moved, widened and added, once and again.
func TestRowsStillFit(t *testing.T) {
	r := rand.New(rand.NewSource(8))
	kinds := map[int]int{}
	for _, start := range schemas() {
		for range 10 {
			s := start
			rows := []api.Row{{}, anyRow(r, s), anyRow(r, s), anyRow(r, s)}
			for range 60 {
				c := anyChange(r, s)
				if c.Kind > api.MoveField || c.Kind == api.DropField {
					continue
				}
				after, err := Apply(s, c)
				if err != api.OK {
					continue
				}
				for _, row := range rows {
					if !Fits(s, row) || !Fits(after, row) {
						t.Fatalf("%+v fits %+v: %v; after %+v: %v", row, s, Fits(s, row), c, Fits(after, row))
					}
				}
				kinds[c.Kind]++
				s = after
			}
		}
	}
	for _, kind := range []int{api.AddField, api.RenameField, api.WidenField, api.MoveField} {
		if kinds[kind] < 100 {
			t.Errorf("only %d changes of the kind %d were possible", kinds[kind], kind)
		}
	}
}

// P6.5: the bounds of a field that is widened.
func TestRowsFitWidened(t *testing.T) {
	s := retyped(oneField("a"), 1, api.Small)
	after, err := Apply(s, api.Change{Kind: api.WidenField, ID: 1})
	if err != api.OK {
		t.Fatal(err)
	}
	for _, n := range []int64{-1 << 31, -1, 0, 1, 1<<31 - 1} {
		row := api.Row{Cells: []api.Cell{cell(1, n)}}
		if !Fits(s, row) || !Fits(after, row) {
			t.Errorf("%d fits: %v, %v", n, Fits(s, row), Fits(after, row))
		}
	}
	for _, n := range []int64{-1<<31 - 1, 1 << 31} {
		row := api.Row{Cells: []api.Cell{cell(1, n)}}
		if Fits(s, row) || !Fits(after, row) {
			t.Errorf("%d fits: %v, %v", n, Fits(s, row), Fits(after, row))
		}
	}
}
