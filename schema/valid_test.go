package schema

import (
	"fmt"
	"math"
	"slices"
	"strings"
	"testing"

	"fenland/api"
)

// P6.1, S1.
func TestNew(t *testing.T) {
	if s := New(); len(s.Fields) != 0 || s.Next != 1 || !Valid(s) {
		t.Errorf("New() = %+v", s)
	}
}

// edited is a schema in which the field with a number is another one.
func edited(s api.Schema, id int, edit func(f *api.Field)) api.Schema {
	s.Fields = slices.Clone(s.Fields)
	for i := range s.Fields {
		if s.Fields[i].ID == id {
			edit(&s.Fields[i])
			return s
		}
	}
	panic("no such field")
}

func renumbered(s api.Schema, id, other int) api.Schema {
	return edited(s, id, func(f *api.Field) { f.ID = other })
}

func renamed(s api.Schema, id int, name string) api.Schema {
	return edited(s, id, func(f *api.Field) { f.Name = name })
}

func retyped(s api.Schema, id, typ int) api.Schema {
	return edited(s, id, func(f *api.Field) { f.Type = typ })
}

func moved(s api.Schema, id, parent int) api.Schema {
	return edited(s, id, func(f *api.Field) { f.Parent = parent })
}

// oneField is a schema of one field, which is valid with a good name.
func oneField(name string) api.Schema {
	return api.Schema{Next: 2, Fields: []api.Field{{ID: 1, Name: name, Type: api.Int}}}
}

// P6.1, S1: Next.
func TestValidNext(t *testing.T) {
	last := renumbered(mixed(), 13, greatest-1)
	for _, c := range []struct {
		s    api.Schema
		want bool
	}{
		{api.Schema{}, false},
		{api.Schema{Next: -1}, false},
		{api.Schema{Next: math.MinInt}, false},
		{api.Schema{Next: 1}, true},
		{api.Schema{Next: 2}, true},
		{api.Schema{Next: greatest - 1}, true},
		{api.Schema{Next: greatest}, true},
		{api.Schema{Next: greatest + 1}, false},
		{api.Schema{Next: math.MaxInt}, false},
		{withNext(mixed(), 0), false},
		{withNext(mixed(), -1), false},
		{withNext(mixed(), 12), false},
		{withNext(mixed(), 13), false},
		{withNext(mixed(), 14), true},
		{withNext(mixed(), 15), true},
		{withNext(mixed(), greatest), true},
		{withNext(mixed(), greatest+1), false},
		{withNext(last, greatest-1), false},
		{withNext(last, greatest), true},
		{withNext(last, greatest+1), false},
		{withNext(renumbered(mixed(), 13, greatest), greatest), false},
		{withNext(renumbered(mixed(), 13, greatest), greatest+1), false},
	} {
		if Valid(c.s) != c.want {
			t.Errorf("Valid(%+v) = %v", c.s, !c.want)
		}
	}
}

// P6.1, S1: the numbers of the fields.
func TestValidNumbers(t *testing.T) {
	flat := api.Schema{Next: 9, Fields: []api.Field{{ID: 2, Name: "a", Type: api.Int}, {ID: 4, Name: "b", Type: api.Int},
		{ID: 6, Name: "c", Type: api.Int}}}
	for _, c := range []struct {
		id, other int
		want      bool
	}{
		{2, math.MinInt, false}, {2, -1, false}, {2, 0, false}, {2, 1, true}, {2, 3, true}, {2, 4, false}, {2, 5, false},
		{4, 0, false}, {4, 1, false}, {4, 2, false}, {4, 3, true}, {4, 5, true}, {4, 6, false}, {4, 7, false},
		{6, 0, false}, {6, 2, false}, {6, 4, false}, {6, 5, true}, {6, 7, true}, {6, 8, true}, {6, 9, false},
		{6, 10, false}, {6, math.MaxInt, false},
	} {
		if s := renumbered(flat, c.id, c.other); Valid(s) != c.want {
			t.Errorf("Valid(%+v) = %v", s, !c.want)
		}
	}
	for i := range mixed().Fields {
		for k := range mixed().Fields {
			s := mixed()
			s.Fields[i], s.Fields[k] = s.Fields[k], s.Fields[i]
			if Valid(s) != (i == k) {
				t.Errorf("Valid(%+v) = %v", s, i != k)
			}
		}
	}
	if !Valid(oneField("a")) || Valid(renumbered(oneField("a"), 1, 0)) {
		t.Error("the smallest number is not 1")
	}
}

// P6.1, S1: how many fields there are.
func TestValidSizes(t *testing.T) {
	for n := 1; n <= 130; n++ {
		if Valid(wide(n)) != (n <= 64) {
			t.Errorf("the schema of %d fields is valid: %v", n, n > 64)
		}
	}
	if Valid(wide(5000)) {
		t.Error("a schema of 5000 fields is valid")
	}
}

// P6.1, S1: names.
func TestValidNames(t *testing.T) {
	const allowed = "abcdefghijklmnopqrstuvwxyz0123456789_"
	for c := range 256 {
		b := string([]byte{byte(c)})
		want := strings.Contains(allowed, b)
		for _, name := range []string{b, "a" + b, b + "a", "a" + b + "z", longName(31) + b, b + longName(31)} {
			if Valid(oneField(name)) != want {
				t.Errorf("the name %q is valid: %v", name, !want)
			}
		}
		for _, name := range []string{"q" + b, b + "q", "q" + b + "q"} {
			for _, id := range []int{1, 9, 13} {
				if Valid(renamed(mixed(), id, name)) != want {
					t.Errorf("the field %d with the name %q is valid: %v", id, name, !want)
				}
			}
		}
	}
	for n := range 100 {
		want := n >= 1 && n <= 32
		if Valid(oneField(longName(n))) != want {
			t.Errorf("a name of %d bytes is valid: %v", n, !want)
		}
	}
	for _, name := range []string{"é", "a.b", ".", "a b", " a", "a\n", "A", "aB", "a-b", strings.Repeat("é", 16)} {
		if Valid(oneField(name)) {
			t.Errorf("the name %q is valid", name)
		}
	}
	for _, name := range []string{"_", "0", "9", "a", "z", "____", "007", "a_1", longName(32)} {
		if !Valid(oneField(name)) {
			t.Errorf("the name %q is not valid", name)
		}
	}
}

// P6.1, S1: equal names in one group and in different groups.
func TestValidEqualNames(t *testing.T) {
	for _, f := range mixed().Fields {
		for _, other := range mixed().Fields {
			want := true
			for _, x := range mixed().Fields {
				want = want && (x.ID == f.ID || x.Parent != f.Parent || x.Name != other.Name)
			}
			if Valid(renamed(mixed(), f.ID, other.Name)) != want {
				t.Errorf("the field %d has the name of %d: valid is %v", f.ID, other.ID, !want)
			}
		}
	}
	for _, c := range []struct {
		id   int
		name string
		want bool
	}{
		{5, "b", false}, {5, "t", false}, {5, "g", false}, {5, "i", true}, {5, "h", true}, {13, "a", false},
		{2, "b", false}, {2, "k", false}, {2, "t", true}, {2, "g", true}, {3, "a", false}, {12, "a", false},
		{9, "h", true}, {9, "a", true}, {8, "k", true}, {1, "k", true}, {1, "a", false},
	} {
		if Valid(renamed(mixed(), c.id, c.name)) != c.want {
			t.Errorf("the field %d has the name %s: valid is %v", c.id, c.name, !c.want)
		}
	}
}

// P6.1, S1: types.
func TestValidTypes(t *testing.T) {
	types := []int{math.MinInt, -1, 0, 1, 2, 3, 4, 5, 6, 7, 8, 255, 256 + api.Int, 1<<32 + api.Int, math.MaxInt}
	for _, typ := range types {
		for _, f := range mixed().Fields {
			// The group empty has no fields and may be any other field; the others may not.
			isParent := f.ID == 1 || f.ID == 8 || f.ID == 12
			want := typ >= 1 && typ <= 6 && (!isParent || typ == 6)
			if Valid(retyped(mixed(), f.ID, typ)) != want {
				t.Errorf("the field %d has the type %d: valid is %v", f.ID, typ, !want)
			}
		}
	}
}

// P6.1, S1: parents.
func TestValidParents(t *testing.T) {
	for _, c := range []struct {
		id, parent int
		want       bool
	}{
		{13, 0, true}, {13, 1, true}, {13, 8, true}, {13, 11, true}, {13, 12, true},
		{5, 1, false}, {5, 12, true}, {9, 0, false}, {9, 1, true}, // a name that a field of the group has
		{13, 2, false}, {13, 5, false}, {13, 6, false}, {13, 7, false}, {13, 10, false}, // leaves
		{13, 4, false}, {13, 14, false}, {13, 15, false}, {13, 16, false}, // no fields
		{13, -1, false}, {13, math.MinInt, false}, {13, math.MaxInt, false}, {13, 1<<32 + 1, false},
		{13, 13, false}, {9, 9, false}, {1, 1, false}, {11, 11, false}, {8, 8, false}, // itself
		{1, 12, false}, {1, 8, false}, {12, 8, false}, // cycles
		{1, 11, true}, {12, 11, true}, {8, 11, true}, {8, 0, true}, {12, 0, true}, {11, 1, true}, {11, 8, true},
	} {
		if Valid(moved(mixed(), c.id, c.parent)) != c.want {
			t.Errorf("the field %d has the parent %d: valid is %v", c.id, c.parent, !c.want)
		}
	}
	if Valid(moved(moved(mixed(), 1, 11), 11, 1)) || Valid(moved(moved(mixed(), 11, 8), 1, 11)) {
		t.Error("a schema with a cycle is valid")
	}
	cycle := api.Schema{Next: 4, Fields: []api.Field{{ID: 1, Name: "a", Type: api.Nest, Parent: 3},
		{ID: 2, Name: "a", Type: api.Nest, Parent: 1}, {ID: 3, Name: "a", Type: api.Nest, Parent: 2}}}
	if Valid(cycle) || !Valid(moved(cycle, 1, 0)) {
		t.Error("a cycle of three groups is valid, or what it becomes without its first parent is not")
	}
}

// chained is a schema of n groups, each inside the one before it or, backward, the one after it, and a leaf or another
// group inside the last one.
func chained(n int, backward bool, typ int) api.Schema {
	s := api.Schema{Next: n + 2}
	for id := 1; id <= n; id++ {
		f := api.Field{ID: id, Name: "g", Type: api.Nest, Parent: id - 1}
		if backward {
			f.Parent = (id + 1) % (n + 1)
		}
		s.Fields = append(s.Fields, f)
	}
	inmost := n
	if backward {
		inmost = min(n, 1)
	}
	s.Fields = append(s.Fields, api.Field{ID: n + 1, Name: "x", Type: typ, Parent: inmost})
	return s
}

// P6.1, S1: depths.
func TestValidDepths(t *testing.T) {
	for n := range 63 {
		for _, backward := range []bool{false, true} {
			for _, typ := range []int{api.Int, api.Nest} {
				if s := chained(n, backward, typ); Valid(s) != (n+1 <= 8) {
					t.Errorf("Valid(%+v) = %v", s, n+1 > 8)
				}
			}
		}
	}
	for _, c := range []struct {
		id, parent int
		want       bool
	}{{9, 8, false}, {10, 8, false}, {10, 7, true}, {11, 5, false}, {11, 4, true}, {11, 6, false}, {12, 6, false},
		{12, 5, true}, {13, 7, false}, {13, 6, true}, {14, 7, true}, {14, 8, false}} {
		s := renamed(moved(deep(), c.id, c.parent), c.id, "new")
		if Valid(s) != c.want {
			t.Errorf("the field %d inside of %d: valid is %v", c.id, c.parent, !c.want)
		}
	}
}

// P6.1, S1: valid schemas, and the same ones with one or two fields that are different.
func TestValid(t *testing.T) {
	for i, s := range schemas() {
		t.Run(fmt.Sprint(i), func(t *testing.T) {
			t.Parallel()
			if !wantValid(s) || !Valid(s) {
				t.Errorf("Valid(%+v) = %v", s, Valid(s))
			}
			for _, other := range spoiled(s) {
				if want := wantValid(other); Valid(other) != want {
					t.Errorf("Valid(%+v) = %v", other, !want)
				}
			}
		})
	}
}

// spoiled are schemas of which many are not valid.
func spoiled(s api.Schema) []api.Schema {
	l := []api.Schema{withNext(s, s.Next-1), withNext(s, s.Next+1), withNext(s, 0), withNext(s, -s.Next)}
	for i, f := range s.Fields {
		for _, id := range someIDs(s) {
			l = append(l, renumbered(s, f.ID, id), moved(s, f.ID, id))
		}
		for typ := -1; typ <= 8; typ++ {
			l = append(l, retyped(s, f.ID, typ), retyped(moved(s, f.ID, f.ID), f.ID, typ))
		}
		for _, name := range someNames(s) {
			l = append(l, renamed(s, f.ID, name), renamed(moved(s, f.ID, s.Fields[0].ID), f.ID, name))
		}
		l = append(l, api.Schema{Next: s.Next, Fields: slices.Delete(slices.Clone(s.Fields), i, i+1)},
			api.Schema{Next: s.Next, Fields: slices.Insert(slices.Clone(s.Fields), i, f)})
	}
	return l
}
