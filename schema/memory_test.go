package schema

import (
	"slices"
	"sync"
	"testing"

	"fenland/api"
)

var spoilt = api.Field{ID: -77, Name: "SPOILT", Type: 77, Parent: -77}

// roomy is a copy of a schema whose fields have room behind them, and the whole of their memory.
func roomy(s api.Schema) (api.Schema, []api.Field) {
	whole := slices.Repeat([]api.Field{{ID: 99, Name: "behind", Type: api.Int}}, len(s.Fields)+5)
	copy(whole, s.Fields)
	s.Fields = whole[:len(s.Fields)]
	return s, whole
}

// spoil writes to every field of a schema and to the room behind them.
func spoil(l []api.Field) {
	l = l[:cap(l)]
	for i := range l {
		l[i] = spoilt
	}
}

// P2: Apply leaves the schema as it was, up to its capacity, and the result has nothing of its memory.
func TestApplyIsSeparate(t *testing.T) {
	for _, original := range []api.Schema{New(), mixed(), deep(), wide(62)} {
		for i, c := range grid(original) {
			if i%5 > 0 && c.Kind != api.MoveField && c.Kind != api.RenameField {
				continue
			}
			s, whole := roomy(original)
			kept := slices.Clone(whole)
			first, err := Apply(s, c)
			again, _ := Apply(s, c)
			want := api.Schema{Fields: slices.Clone(first.Fields), Next: first.Next}
			if !slices.Equal(whole, kept) {
				t.Fatalf("Apply of %+v, %v, changes its argument", c, err)
			}
			spoil(first.Fields)
			if !slices.Equal(whole, kept) || !same(again, want) {
				t.Fatalf("the result of Apply of %+v, %v, has the memory of another schema", c, err)
			}
			spoil(whole)
			if !same(again, want) {
				t.Fatalf("the result of Apply of %+v, %v, changes with the argument", c, err)
			}
		}
	}
}

// changesOfAllKinds are changes that follow one another, of which each kind occurs, and some change nothing.
func changesOfAllKinds() []api.Change {
	return []api.Change{
		{Kind: api.AddField, Name: "g", Type: api.Nest},
		{Kind: api.AddField, Name: "a", Type: api.Text, Parent: 1},
		{Kind: api.RenameField, ID: 2, Name: "a"},
		{Kind: api.MoveField, ID: 2, Parent: 1},
		{Kind: api.SplitField, ID: 2, Name: "a", Other: "b", Sep: "-"},
		{Kind: api.AddField, Name: "n", Type: api.Small},
		{Kind: api.WidenField, ID: 5},
		{Kind: api.JoinFields, ID: 4, With: 3, Name: "c", Sep: "-"},
		{Kind: api.MoveField, ID: 6},
		{Kind: api.RenameField, ID: 6, Name: "d"},
		{Kind: api.DropField, ID: 1},
	}
}

// P2: After leaves the changes as they were, and results are separate, also if a change fails.
func TestAfterIsSeparate(t *testing.T) {
	all := changesOfAllKinds()
	for n := range len(all) + 1 {
		for _, end := range []api.Change{{Kind: api.AddField, Name: "last", Type: api.Int}, {Kind: 8}} {
			whole := append(append([]api.Change{}, all[:n]...), end, api.Change{Kind: 77, Name: "behind"})
			l := whole[:n+1]
			kept := slices.Clone(whole)
			want, wantN, wantErr := wantAfter(l)
			first, _, _ := After(l)
			again, gotN, err := After(l)
			if !slices.Equal(whole, kept) {
				t.Errorf("After of %+v changes its argument", l)
			}
			spoil(first.Fields)
			for i := range whole {
				whole[i] = api.Change{Kind: 77, Name: "SPOILT"}
			}
			if !same(again, want) || gotN != wantN || err != wantErr {
				t.Errorf("After = %+v, %d, %v, instead of %+v, %d, %v", again, gotN, err, want, wantN, wantErr)
			}
		}
	}
	first := New()
	first.Fields = append(first.Fields, spoilt)
	if s := New(); len(s.Fields) != 0 {
		t.Error("schemas without fields have common memory")
	}
}

// P2: the other functions leave their arguments, and the numbers of the leaves are in new memory.
func TestLookupsAreSeparate(t *testing.T) {
	for _, original := range schemas() {
		s, whole := roomy(original)
		kept := slices.Clone(whole)
		row := api.Row{Cells: append(make([]api.Cell, 0, 9), cell(6, 1), cell(7, 2), cell(10, 2))}
		cells := slices.Clone(row.Cells[:cap(row.Cells)])
		for _, id := range someIDs(s) {
			Field(s, id)
			Find(s, Path(s, id))
		}
		Valid(s)
		Fits(s, row)
		first := Leaves(s)
		if !slices.Equal(whole, kept) || !slices.Equal(row.Cells[:cap(row.Cells)], cells) {
			t.Errorf("the arguments of lookups in %+v are changed", original)
		}
		want, again := slices.Clone(first), Leaves(s)
		first = first[:cap(first)]
		for i := range first {
			first[i] = -77
		}
		spoil(whole)
		if !slices.Equal(again, want) || !slices.Equal(Leaves(original), want) {
			t.Errorf("the leaves of %+v have common memory", original)
		}
	}
}

// P2: results depend neither on the capacity of an argument, nor on whether it is nil.
func TestNilAndEmpty(t *testing.T) {
	empty := api.Schema{Fields: []api.Field{}, Next: 1}
	bare := api.Schema{Next: 1}
	for _, c := range grid(bare) {
		want, wantErr := Apply(bare, c)
		if got, err := Apply(empty, c); !same(got, want) || err != wantErr {
			t.Errorf("Apply of %+v to no fields: %+v, %v and %+v, %v", c, want, wantErr, got, err)
		}
	}
	if !Valid(empty) || !Valid(bare) || len(Leaves(empty)) != 0 || Path(empty, 1) != "" {
		t.Error("a schema with an empty slice is another one")
	}
	if !Fits(empty, api.Row{}) || !Fits(bare, api.Row{Cells: []api.Cell{}}) {
		t.Error("an empty row does not fit")
	}
}

// P2: equal arguments have equal results, whatever was called before, and at the same time.
func TestCallsAtTheSameTime(t *testing.T) {
	all := changesOfAllKinds()
	shared, changes := mixed(), grid(mixed())
	var wait sync.WaitGroup
	for n := range 16 {
		wait.Go(func() {
			l := all[:n%(len(all)+1)]
			want, _, _ := wantAfter(l)
			for range 50 {
				if s, count, err := After(l); !same(s, want) || count != len(l) || err != api.OK {
					t.Errorf("After(%+v) = %+v, %d, %v at the same time as other calls", l, s, count, err)
				}
			}
			for i := n; i < len(changes); i += 16 {
				want, wantErr := wantApply(shared, changes[i])
				if s, err := Apply(shared, changes[i]); !same(s, want) || err != wantErr {
					t.Errorf("Apply(%+v) = %+v, %v at the same time as other calls", changes[i], s, err)
				}
			}
		})
	}
	wait.Wait()
}

// P1: all functions return for schemas that are not valid, too, and do not panic.
func TestInvalidSchemas(t *testing.T) {
	row := api.Row{Cells: []api.Cell{cell(-1, 0), cell(0, 0), textCell(3, "a"), cell(7, 1)}}
	for _, original := range []api.Schema{New(), mixed(), deep(), wide(64), chained(9, true, api.Text)} {
		for i, s := range spoiled(original) {
			if i%3 > 0 && len(s.Fields) > 20 {
				continue
			}
			for _, id := range someIDs(s) {
				Field(s, id)
				Find(s, Path(s, id))
				for kind := 0; kind <= 8; kind++ {
					Apply(s, api.Change{Kind: kind, ID: id, With: 3, Name: "new", Other: "x", Type: api.Nest, Parent: id, Sep: "-"})
				}
			}
			Valid(s)
			Leaves(s)
			Fits(s, row)
		}
	}
}
