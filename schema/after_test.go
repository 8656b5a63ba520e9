package schema

import (
	"math/rand"
	"testing"

	"fenland/api"
)

// wantAfter is S4.
func wantAfter(l []api.Change) (api.Schema, int, api.Errno) {
	s := api.Schema{Next: 1}
	for n, c := range l {
		after, err := wantApply(s, c)
		if err != api.OK {
			return s, n, err
		}
		s = after
	}
	return s, len(l), api.OK
}

// P6.1, S3: the examples.
func TestExamples(t *testing.T) {
	s, n, err := After([]api.Change{
		{Kind: api.AddField, Name: "a", Type: api.Text},
		{Kind: api.SplitField, ID: 1, Name: "b", Other: "c", Sep: "-"},
	})
	want := api.Schema{Next: 4, Fields: []api.Field{{ID: 2, Name: "b", Type: api.Text}, {ID: 3, Name: "c", Type: api.Text}}}
	if !same(s, want) || n != 2 || err != api.OK {
		t.Errorf("splitting: %+v, %d, %v", s, n, err)
	}
	s, n, err = After([]api.Change{
		{Kind: api.AddField, Name: "g", Type: api.Nest},
		{Kind: api.AddField, Name: "x", Type: api.Int, Parent: 1},
		{Kind: api.DropField, ID: 1},
	})
	want = api.Schema{Next: 3, Fields: []api.Field{{ID: 1, Name: "g", Type: api.Nest},
		{ID: 2, Name: "x", Type: api.Int, Parent: 1}}}
	if !same(s, want) || n != 2 || err != api.ErrParent {
		t.Errorf("dropping a group with a field: %+v, %d, %v", s, n, err)
	}
	s, n, err = After([]api.Change{{Kind: api.AddField, Name: "g", Type: api.Nest}, moving(1, 1)})
	want = api.Schema{Next: 2, Fields: []api.Field{{ID: 1, Name: "g", Type: api.Nest}}}
	if !same(s, want) || n != 1 || err != api.ErrParent {
		t.Errorf("moving a group into itself: %+v, %d, %v", s, n, err)
	}
}

// P6.1, S4: no changes, and changes of which the first, a middle or the last one fails.
func TestAfter(t *testing.T) {
	for _, l := range [][]api.Change{nil, {}} {
		if s, n, err := After(l); !same(s, api.Schema{Next: 1}) || n != 0 || err != api.OK {
			t.Errorf("After(%v) = %+v, %d, %v", l, s, n, err)
		}
	}
	good := []api.Change{
		{Kind: api.AddField, Name: "g", Type: api.Nest},
		{Kind: api.AddField, Name: "a", Type: api.Text, Parent: 1},
		{Kind: api.AddField, Name: "b", Type: api.Text, Parent: 1},
		{Kind: api.AddField, Name: "n", Type: api.Small},
		{Kind: api.WidenField, ID: 4},
		{Kind: api.JoinFields, ID: 3, With: 2, Name: "a", Sep: ", "},
		{Kind: api.MoveField, ID: 5},
		{Kind: api.DropField, ID: 1},
		{Kind: api.RenameField, ID: 5, Name: "g"},
	}
	want := api.Schema{Next: 6, Fields: []api.Field{{ID: 4, Name: "n", Type: api.Int}, {ID: 5, Name: "g", Type: api.Text}}}
	if s, n, err := After(good); !same(s, want) || n != len(good) || err != api.OK {
		t.Errorf("After = %+v, %d, %v", s, n, err)
	}
	for at := range len(good) + 1 {
		for err, c := range map[api.Errno]api.Change{
			api.ErrArg:   {Kind: 8},
			api.ErrType:  {Kind: api.AddField, Name: "new"},
			api.ErrField: {Kind: api.DropField, ID: 99},
			api.ErrName:  {Kind: api.AddField, Type: api.Int},
		} {
			l := append(append(append([]api.Change{}, good[:at]...), c), good[at:]...)
			before, _, _ := wantAfter(good[:at])
			if s, n, got := After(l); !same(s, before) || n != at || got != err {
				t.Errorf("After with an error %v at %d: %+v, %d, %v", err, at, s, n, got)
			}
		}
	}
}

// P6.1, S4: any changes, first those that are possible alone, then with others between them.
func TestAfterAny(t *testing.T) {
	r := rand.New(rand.NewSource(5))
	for range 300 {
		s := api.Schema{Next: 1}
		var l []api.Change
		for range r.Intn(120) {
			c := anyChange(r, s)
			if after, err := wantApply(s, c); err == api.OK || r.Intn(200) == 0 {
				l = append(l, c)
				if err == api.OK {
					s = after
				}
			}
		}
		want, wantN, wantErr := wantAfter(l)
		if got, n, err := After(l); !same(got, want) || n != wantN || err != wantErr {
			t.Errorf("After(%+v) = %+v, %d, %v, instead of %+v, %d, %v", l, got, n, err, want, wantN, wantErr)
		}
	}
}

// P6.1, S3 and S4: a schema can be filled to the last field, and no further.
func TestAfterManyChanges(t *testing.T) {
	var l []api.Change
	for _, f := range wide(64).Fields {
		l = append(l, api.Change{Kind: api.AddField, Name: f.Name, Type: f.Type, Parent: f.Parent})
	}
	if s, n, err := After(l); !same(s, wide(64)) || n != 64 || err != api.OK {
		t.Errorf("64 fields: %+v, %d, %v", s, n, err)
	}
	l = append(l, api.Change{Kind: api.AddField, Name: "more", Type: api.Int})
	if s, n, err := After(l); !same(s, wide(64)) || n != 64 || err != api.ErrBig {
		t.Errorf("65 fields: %+v, %d, %v", s, n, err)
	}
	l[64] = api.Change{Kind: api.DropField, ID: 64}
	for range 3000 {
		last := api.Change{Kind: api.AddField, Name: "more", Type: api.Int}
		drop := api.Change{Kind: api.DropField, ID: 65 + (len(l)-65)/2}
		l = append(l, last, drop)
	}
	want := api.Schema{Fields: wide(63).Fields, Next: 65 + 3000}
	if s, n, err := After(l); !same(s, want) || n != len(l) || err != api.OK {
		t.Errorf("3000 fields that come and go: %+v, %d, %v", s, n, err)
	}
}
