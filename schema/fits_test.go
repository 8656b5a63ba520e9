package schema

import (
	"math"
	"math/rand"
	"testing"

	"fenland/api"
	"fenland/value"
)

func cell(id int, n int64) api.Cell { return api.Cell{ID: id, V: api.Value{N: n}} }

func textCell(id int, s string) api.Cell { return api.Cell{ID: id, V: api.Value{S: s}} }

// P6.1, S5: rows of mixed.
func TestFits(t *testing.T) {
	for i, c := range []struct {
		cells []api.Cell
		want  bool
	}{
		{nil, true},
		{[]api.Cell{}, true},
		{[]api.Cell{textCell(2, "a")}, true},
		{[]api.Cell{textCell(2, "")}, true},
		{[]api.Cell{textCell(2, longName(200))}, true},
		{[]api.Cell{textCell(2, longName(201))}, false},
		{[]api.Cell{cell(2, 1)}, false},
		{[]api.Cell{cell(6, 1<<31-1)}, true},
		{[]api.Cell{cell(6, 1<<31)}, false},
		{[]api.Cell{cell(6, -1<<31)}, true},
		{[]api.Cell{cell(6, -1<<31-1)}, false},
		{[]api.Cell{cell(7, math.MaxInt64)}, true},
		{[]api.Cell{cell(7, math.MinInt64)}, true},
		{[]api.Cell{textCell(7, "a")}, false},
		{[]api.Cell{cell(9, 1000000)}, true},
		{[]api.Cell{cell(9, 1000001)}, false},
		{[]api.Cell{cell(10, 1)}, true},
		{[]api.Cell{cell(10, 2)}, false},
		// Equal and decreasing numbers.
		{[]api.Cell{cell(6, 1), cell(7, 1)}, true},
		{[]api.Cell{cell(7, 1), cell(6, 1)}, false},
		{[]api.Cell{cell(6, 1), cell(6, 1)}, false},
		{[]api.Cell{cell(6, 1), cell(6, 2)}, false},
		{[]api.Cell{cell(6, 1), cell(7, 1), cell(10, 1)}, true},
		{[]api.Cell{cell(6, 1), cell(10, 1), cell(7, 1)}, false},
		{[]api.Cell{cell(6, 1), cell(7, 1), cell(6, 1)}, false},
		{[]api.Cell{cell(6, 1), cell(10, 1), cell(10, 1)}, false},
		// Groups, and numbers that no field has.
		{[]api.Cell{cell(1, 0)}, false},
		{[]api.Cell{cell(8, 0)}, false},
		{[]api.Cell{cell(11, 0)}, false},
		{[]api.Cell{textCell(12, "")}, false},
		{[]api.Cell{{ID: 1, V: null}}, false},
		{[]api.Cell{cell(4, 0)}, false},
		{[]api.Cell{cell(14, 0)}, false},
		{[]api.Cell{cell(15, 0)}, false},
		{[]api.Cell{cell(0, 0)}, false},
		{[]api.Cell{cell(-1, 0)}, false},
		{[]api.Cell{cell(math.MinInt, 0)}, false},
		{[]api.Cell{cell(math.MaxInt, 0)}, false},
		{[]api.Cell{cell(1<<32+6, 0)}, false},
		{[]api.Cell{{ID: 4, V: null}}, false},
		// Null values, and values that are valid for no type.
		{[]api.Cell{{ID: 2, V: null}}, false},
		{[]api.Cell{{ID: 6, V: null}}, false},
		{[]api.Cell{cell(6, 1), {ID: 7, V: null}}, false},
		{[]api.Cell{{ID: 6, V: null}, cell(7, 1)}, false},
		{[]api.Cell{{ID: 7, V: api.Value{Null: true, N: 1}}}, false},
		{[]api.Cell{{ID: 2, V: api.Value{Null: true, S: "a"}}}, false},
		{[]api.Cell{{ID: 7, V: api.Value{N: 1, S: "a"}}}, false},
		{[]api.Cell{{ID: 2, V: api.Value{N: 1, S: "a"}}}, false},
		// All fields at once, and with one that does not fit at the end.
		{[]api.Cell{textCell(2, "a"), textCell(3, "b"), textCell(5, "c"), cell(6, 1), cell(7, 2), cell(9, 3), cell(10, 0),
			textCell(13, "d")}, true},
		{[]api.Cell{textCell(2, "a"), textCell(3, "b"), textCell(5, "c"), cell(6, 1), cell(7, 2), cell(9, 3), cell(10, 0),
			cell(13, 4)}, false},
	} {
		if Fits(mixed(), api.Row{Cells: c.cells}) != c.want {
			t.Errorf("row %d: Fits(%+v) = %v", i, c.cells, !c.want)
		}
		if len(c.cells) > 0 && Fits(New(), api.Row{Cells: c.cells}) {
			t.Errorf("row %d fits the schema without fields", i)
		}
	}
}

// P6.1, S5: one cell, for each type of the field and each value.
func TestFitsTypes(t *testing.T) {
	for typ := api.Bool; typ <= api.Nest; typ++ {
		s := retyped(oneField("a"), 1, typ)
		for _, v := range someValues() {
			want := !v.Null && typ != api.Nest && value.Valid(v, typ)
			if Fits(s, api.Row{Cells: []api.Cell{{ID: 1, V: v}}}) != want {
				t.Errorf("the value %+v fits the type %d: %v", v, typ, !want)
			}
		}
	}
}

// P6.1, S5: rows that fit, and what they become.
func TestFitsAny(t *testing.T) {
	r := rand.New(rand.NewSource(6))
	fitting, others := 0, 0
	for _, s := range schemas() {
		for range 300 {
			row := anyRow(r, s)
			if !Fits(s, row) || !wantFits(s, row) {
				t.Fatalf("Fits(%+v, %+v) = %v", s, row, Fits(s, row))
			}
			for range 3 {
				row = mutated(r, s, row)
				want := wantFits(s, row)
				if Fits(s, row) != want {
					t.Fatalf("Fits(%+v, %+v) = %v", s, row, !want)
				}
				if want {
					fitting++
				} else {
					others++
				}
			}
		}
	}
	if fitting < 1000 || others < 1000 {
		t.Errorf("%d rows fit, %d do not", fitting, others)
	}
}
