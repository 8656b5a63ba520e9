package schema

import (
	"fmt"
	"math"
	"slices"
	"strings"
	"testing"

	"fenland/api"
)

// applied compares what Apply returns with a schema, or with an error.
func applied(t *testing.T, s api.Schema, c api.Change, want api.Schema, wantErr api.Errno) {
	t.Helper()
	if got, err := Apply(s, c); !same(got, want) || err != wantErr {
		t.Errorf("Apply(%+v, %+v) =\n%+v, %v, instead of\n%+v, %v", s, c, got, err, want, wantErr)
	}
}

// refused tells that a change has an error.
func refused(t *testing.T, s api.Schema, c api.Change, err api.Errno) {
	t.Helper()
	applied(t, s, c, api.Schema{}, err)
}

// added is a schema with one more field at the end, which has the number Next.
func added(s api.Schema, name string, typ, parent int) api.Schema {
	return api.Schema{Next: s.Next + 1, Fields: append(slices.Clone(s.Fields),
		api.Field{ID: s.Next, Name: name, Type: typ, Parent: parent})}
}

// removed is a schema without a field.
func removed(s api.Schema, id int) api.Schema {
	var l []api.Field
	for _, f := range s.Fields {
		if f.ID != id {
			l = append(l, f)
		}
	}
	if len(l) != len(s.Fields)-1 {
		panic("no such field")
	}
	return api.Schema{Fields: l, Next: s.Next}
}

// noFields are numbers that no field of mixed has, not even the next one.
var noFields = []int{math.MinInt, -1, 0, 4, 14, 15, 16, greatest, 1<<32 + 5, math.MaxInt}

// noNames are strings that are no names.
var noNames = []string{"", "A", "a.b", "a b", "-", "é", longName(33), longName(200), "a\x00"}

// P6.1, S3: kinds that do not exist, whatever else a change has.
func TestKinds(t *testing.T) {
	for _, kind := range []int{math.MinInt, -7, -1, 0, 8, 9, 257, 1<<32 + 1, math.MaxInt} {
		for _, s := range schemas() {
			refused(t, s, api.Change{Kind: kind}, api.ErrArg)
			refused(t, s, api.Change{Kind: kind, ID: 5, With: 13, Name: "new", Other: "x", Type: api.Int, Sep: "-"}, api.ErrArg)
			refused(t, s, api.Change{Kind: kind, ID: 99, Name: "A", Type: 7, Parent: 99}, api.ErrArg)
		}
	}
}

// P6.1, S3: AddField.
func TestAddField(t *testing.T) {
	add := func(name string, typ, parent int) api.Change {
		return api.Change{Kind: api.AddField, Name: name, Type: typ, Parent: parent}
	}
	for typ := api.Bool; typ <= api.Nest; typ++ {
		for _, parent := range []int{0, 1, 8, 11, 12} {
			applied(t, mixed(), add("new", typ, parent), added(mixed(), "new", typ, parent), api.OK)
		}
		for _, parent := range append([]int{2, 3, 5, 6, 7, 9, 10, 13}, noFields...) {
			if parent != 0 {
				refused(t, mixed(), add("new", typ, parent), api.ErrParent)
			}
		}
		applied(t, New(), add("a", typ, 0), api.Schema{Next: 2, Fields: []api.Field{{ID: 1, Name: "a", Type: typ}}}, api.OK)
		refused(t, New(), add("a", typ, 1), api.ErrParent)
		applied(t, deep(), add("new", typ, 7), added(deep(), "new", typ, 7), api.OK)
		refused(t, deep(), add("new", typ, 8), api.ErrParent)
		applied(t, wide(63), add("new", typ, 0), added(wide(63), "new", typ, 0), api.OK)
		refused(t, wide(64), add("new", typ, 0), api.ErrBig)
		near := withNext(mixed(), greatest-1)
		applied(t, near, add("new", typ, 1), added(near, "new", typ, 1), api.OK)
		refused(t, withNext(mixed(), greatest), add("new", typ, 1), api.ErrBig)
	}
	for _, typ := range []int{math.MinInt, -1, 0, 7, 8, 256 + api.Int, math.MaxInt} {
		refused(t, mixed(), add("new", typ, 0), api.ErrType)
	}
	for _, name := range append([]string{"g", "a", "n", "b", "empty", "t"}, noNames...) {
		refused(t, mixed(), add(name, api.Int, 0), api.ErrName)
	}
	for _, name := range append([]string{"a", "b", "i", "k"}, noNames...) {
		refused(t, mixed(), add(name, api.Nest, 1), api.ErrName)
	}
	for _, name := range []string{"h", "i", "k", longName(32), "_", "0"} {
		applied(t, mixed(), add(name, api.Int, 0), added(mixed(), name, api.Int, 0), api.OK)
	}
	applied(t, mixed(), add("a", api.Int, 11), added(mixed(), "a", api.Int, 11), api.OK)
}

// P6.1, S3: DropField.
func TestDropField(t *testing.T) {
	for _, id := range []int{2, 3, 5, 6, 7, 9, 10, 11, 13} {
		applied(t, mixed(), api.Change{Kind: api.DropField, ID: id}, removed(mixed(), id), api.OK)
	}
	for _, id := range []int{1, 8, 12} {
		refused(t, mixed(), api.Change{Kind: api.DropField, ID: id}, api.ErrParent)
	}
	for _, id := range noFields {
		refused(t, mixed(), api.Change{Kind: api.DropField, ID: id}, api.ErrField)
		refused(t, New(), api.Change{Kind: api.DropField, ID: id}, api.ErrField)
	}
	applied(t, oneField("a"), api.Change{Kind: api.DropField, ID: 1}, api.Schema{Next: 2}, api.OK)
	applied(t, deep(), api.Change{Kind: api.DropField, ID: 8}, removed(deep(), 8), api.OK)
	refused(t, deep(), api.Change{Kind: api.DropField, ID: 7}, api.ErrParent)
	full := withNext(wide(64), greatest)
	applied(t, full, api.Change{Kind: api.DropField, ID: 64}, removed(full, 64), api.OK)
}

// P6.1, S3: RenameField. A field may get the name that it has.
func TestRenameField(t *testing.T) {
	rename := func(id int, name string) api.Change { return api.Change{Kind: api.RenameField, ID: id, Name: name} }
	for _, f := range mixed().Fields {
		for _, name := range []string{"new", longName(32), f.Name} {
			applied(t, mixed(), rename(f.ID, name), renamed(mixed(), f.ID, name), api.OK)
		}
		for _, name := range noNames {
			refused(t, mixed(), rename(f.ID, name), api.ErrName)
		}
	}
	for _, id := range noFields {
		refused(t, mixed(), rename(id, "new"), api.ErrField)
		refused(t, New(), rename(id, "new"), api.ErrField)
	}
	refused(t, mixed(), rename(5, "b"), api.ErrName)
	refused(t, mixed(), rename(5, "g"), api.ErrName)
	refused(t, mixed(), rename(1, "t"), api.ErrName)
	refused(t, mixed(), rename(12, "a"), api.ErrName)
	refused(t, mixed(), rename(2, "b"), api.ErrName)
	applied(t, mixed(), rename(5, "i"), renamed(mixed(), 5, "i"), api.OK)
	applied(t, mixed(), rename(2, "t"), renamed(mixed(), 2, "t"), api.OK)
	full := withNext(wide(64), greatest)
	applied(t, full, rename(64, "new"), renamed(full, 64, "new"), api.OK)
}

// P6.1, S3: WidenField.
func TestWidenField(t *testing.T) {
	for _, f := range mixed().Fields {
		c := api.Change{Kind: api.WidenField, ID: f.ID}
		if f.ID == 6 {
			applied(t, mixed(), c, retyped(mixed(), 6, api.Int), api.OK)
		} else {
			refused(t, mixed(), c, api.ErrWiden)
		}
	}
	for _, typ := range []int{api.Bool, api.Int, api.Text, api.Day, api.Nest} {
		refused(t, retyped(oneField("a"), 1, typ), api.Change{Kind: api.WidenField, ID: 1}, api.ErrWiden)
	}
	for _, id := range noFields {
		refused(t, mixed(), api.Change{Kind: api.WidenField, ID: id}, api.ErrField)
		refused(t, New(), api.Change{Kind: api.WidenField, ID: id}, api.ErrField)
	}
	full := withNext(retyped(wide(64), 64, api.Small), greatest)
	applied(t, full, api.Change{Kind: api.WidenField, ID: 64}, retyped(full, 64, api.Int), api.OK)
}

func moving(id, parent int) api.Change {
	return api.Change{Kind: api.MoveField, ID: id, Parent: parent}
}

// P6.1, S3: MoveField.
func TestMoveField(t *testing.T) {
	for _, c := range [][2]int{{13, 0}, {13, 1}, {13, 8}, {13, 11}, {13, 12}, {5, 0}, {5, 12}, {5, 11}, {2, 1}, {2, 12},
		{2, 11}, {9, 8}, {9, 1}, {9, 11}, {8, 0}, {8, 12}, {8, 11}, {12, 0}, {12, 1}, {12, 11}, {1, 0}, {1, 11}, {11, 1},
		{11, 8}, {11, 12}, {11, 0}} {
		applied(t, mixed(), moving(c[0], c[1]), moved(mixed(), c[0], c[1]), api.OK)
	}
	for _, parent := range append([]int{2, 3, 5, 6, 7, 9, 10, 13}, noFields...) {
		for _, f := range mixed().Fields {
			if parent != 0 {
				refused(t, mixed(), moving(f.ID, parent), api.ErrParent)
			}
		}
	}
	for _, id := range noFields {
		refused(t, mixed(), moving(id, 0), api.ErrField)
		refused(t, mixed(), moving(id, 11), api.ErrField)
		refused(t, New(), moving(id, 0), api.ErrField)
	}
	for _, c := range [][2]int{{5, 1}, {2, 0}, {3, 0}, {10, 1}, {9, 0}} { // where the name is taken
		refused(t, mixed(), moving(c[0], c[1]), api.ErrName)
	}
	full := withNext(wide(64), greatest)
	applied(t, full, moving(64, 1), moved(full, 64, 1), api.OK)
}

// P6.1, S3: MoveField of a group into itself, and into the groups inside of it.
func TestMoveFieldIntoItself(t *testing.T) {
	for _, c := range [][2]int{{1, 1}, {1, 12}, {1, 8}, {12, 12}, {12, 8}, {8, 8}, {11, 11}, {5, 5}} {
		refused(t, mixed(), moving(c[0], c[1]), api.ErrParent)
	}
	for id := 1; id <= 8; id++ {
		for parent := 0; parent <= 8; parent++ {
			if parent >= id {
				refused(t, deep(), moving(id, parent), api.ErrParent)
			} else {
				applied(t, deep(), moving(id, parent), moved(deep(), id, parent), api.OK)
			}
		}
	}
	for n := 1; n <= 7; n++ {
		for _, backward := range []bool{false, true} {
			s := chained(n, backward, api.Nest)
			for _, f := range s.Fields {
				for _, parent := range s.Fields {
					inside := strings.HasPrefix(wantPath(s, parent.ID)+".", wantPath(s, f.ID)+".")
					if inside {
						refused(t, s, moving(f.ID, parent.ID), api.ErrParent)
					}
				}
			}
		}
	}
}

// P6.1, S3: MoveField to the depths of 8 and 9.
func TestMoveFieldDepths(t *testing.T) {
	// The groups 11 to 13, and the leaf 14 in 13, with their heights.
	for id, height := range map[int]int{10: 1, 11: 4, 12: 3, 13: 2, 14: 1} {
		for parent := range 9 {
			if parent+height > 8 {
				refused(t, deep(), moving(id, parent), api.ErrParent)
			} else {
				applied(t, deep(), moving(id, parent), moved(deep(), id, parent), api.OK)
			}
		}
	}
	// The deepest field of a group need not be the first one, nor the last one.
	s := added(added(deep(), "x", api.Int, 11), "y", api.Int, 12)
	applied(t, s, moving(11, 4), moved(s, 11, 4), api.OK)
	refused(t, s, moving(11, 5), api.ErrParent)
	s = added(removed(deep(), 14), "x", api.Nest, 13)
	applied(t, s, moving(12, 5), moved(s, 12, 5), api.OK)
	refused(t, s, moving(12, 6), api.ErrParent)
	s = removed(s, s.Next-1)
	applied(t, s, moving(12, 6), moved(s, 12, 6), api.OK)
	refused(t, s, moving(12, 7), api.ErrParent)
}

// P6.1, S3: SplitField.
func TestSplitField(t *testing.T) {
	split := func(id int, name, other, sep string) api.Change {
		return api.Change{Kind: api.SplitField, ID: id, Name: name, Other: other, Sep: sep}
	}
	replaced := func(s api.Schema, id int, name, other string, parent int) api.Schema {
		return added(added(removed(s, id), name, api.Text, parent), other, api.Text, parent)
	}
	for id, parent := range map[int]int{2: 1, 3: 1, 5: 0, 13: 0} {
		for _, sep := range []string{"-", ", ", "\x00", "\xff", longName(15), longName(16)} {
			applied(t, mixed(), split(id, "x", "y", sep), replaced(mixed(), id, "x", "y", parent), api.OK)
		}
		for _, sep := range []string{"", longName(17), longName(32), longName(256), longName(257)} {
			refused(t, mixed(), split(id, "x", "y", sep), api.ErrArg)
		}
		for _, name := range append([]string{"b", "y"}, noNames...) {
			if id != 3 || name != "b" {
				refused(t, mixed(), split(id, name, "y", "-"), api.ErrName)
				refused(t, mixed(), split(id, "y", name, "-"), api.ErrName)
			}
		}
		refused(t, withNext(mixed(), greatest), split(id, "x", "y", "-"), api.ErrBig)
		refused(t, withNext(mixed(), greatest-1), split(id, "x", "y", "-"), api.ErrBig)
		near := withNext(mixed(), greatest-2)
		applied(t, near, split(id, "x", "y", "-"), replaced(near, id, "x", "y", parent), api.OK)
	}
	// The names of the field that is removed, of fields in other groups, and of both.
	for _, names := range [][2]string{{"a", "y"}, {"y", "a"}, {"i", "k"}, {"h", "a"}, {"a", "k"}} {
		applied(t, mixed(), split(5, names[0], names[1], "-"), replaced(mixed(), 5, names[0], names[1], 0), api.OK)
	}
	refused(t, mixed(), split(5, "a", "a", "-"), api.ErrName)
	refused(t, mixed(), split(5, "a", "t", "-"), api.ErrName)
	refused(t, mixed(), split(5, "t", "a", "-"), api.ErrName)
	for _, id := range []int{1, 6, 7, 8, 9, 10, 11, 12} {
		refused(t, mixed(), split(id, "x", "y", "-"), api.ErrType)
	}
	for _, id := range noFields {
		refused(t, mixed(), split(id, "x", "y", "-"), api.ErrField)
		refused(t, New(), split(id, "x", "y", "-"), api.ErrField)
	}
	applied(t, wide(63), split(63, "x", "y", "-"), replaced(wide(63), 63, "x", "y", 1), api.OK)
	refused(t, wide(64), split(64, "x", "y", "-"), api.ErrBig)
	applied(t, deep(), split(9, "x", "y", "-"), replaced(deep(), 9, "x", "y", 7), api.OK)
}

// P6.1, S3: JoinFields.
func TestJoinFields(t *testing.T) {
	join := func(id, with int, name, sep string) api.Change {
		return api.Change{Kind: api.JoinFields, ID: id, With: with, Name: name, Sep: sep}
	}
	replaced := func(s api.Schema, id, with int, name string, parent int) api.Schema {
		return added(removed(removed(s, id), with), name, api.Text, parent)
	}
	for _, c := range [][3]int{{2, 3, 1}, {3, 2, 1}, {5, 13, 0}, {13, 5, 0}} {
		id, with, parent := c[0], c[1], c[2]
		for _, sep := range []string{"-", ", ", "\x00", "\xff", longName(15), longName(16)} {
			applied(t, mixed(), join(id, with, "x", sep), replaced(mixed(), id, with, "x", parent), api.OK)
		}
		for _, sep := range []string{"", longName(17), longName(32), longName(256), longName(257)} {
			refused(t, mixed(), join(id, with, "x", sep), api.ErrArg)
		}
		for _, name := range noNames {
			refused(t, mixed(), join(id, with, name, "-"), api.ErrName)
		}
		refused(t, withNext(mixed(), greatest), join(id, with, "x", "-"), api.ErrBig)
		near := withNext(mixed(), greatest-1)
		applied(t, near, join(id, with, "x", "-"), replaced(near, id, with, "x", parent), api.OK)
	}
	for _, name := range []string{"a", "t", "i", "k"} { // those of the fields that are removed, and of other groups
		applied(t, mixed(), join(5, 13, name, "-"), replaced(mixed(), 5, 13, name, 0), api.OK)
	}
	refused(t, mixed(), join(5, 13, "b", "-"), api.ErrName)
	refused(t, mixed(), join(5, 13, "g", "-"), api.ErrName)
	refused(t, mixed(), join(2, 3, "i", "-"), api.ErrName)
	for _, f := range mixed().Fields {
		refused(t, mixed(), join(f.ID, f.ID, "x", "-"), api.ErrField)
		for _, id := range noFields {
			refused(t, mixed(), join(f.ID, id, "x", "-"), api.ErrField)
			refused(t, mixed(), join(id, f.ID, "x", "-"), api.ErrField)
			refused(t, mixed(), join(id, id, "x", "-"), api.ErrField)
		}
		if f.Type != api.Text {
			refused(t, mixed(), join(f.ID, 13, "x", "-"), api.ErrType)
			refused(t, mixed(), join(13, f.ID, "x", "-"), api.ErrType)
		}
	}
	for _, c := range [][2]int{{2, 5}, {5, 2}, {3, 13}, {13, 3}} {
		refused(t, mixed(), join(c[0], c[1], "x", "-"), api.ErrParent)
	}
	full := wide(64)
	applied(t, full, join(64, 62, "x", "-"), replaced(full, 64, 62, "x", 0), api.OK)
	applied(t, full, join(3, 5, "x", "-"), replaced(full, 3, 5, "x", 1), api.OK)
}

// fault makes a change impossible.
type fault struct {
	err  api.Errno
	make func(s *api.Schema, c *api.Change)
}

func setID(id int) func(*api.Schema, *api.Change) {
	return func(_ *api.Schema, c *api.Change) { c.ID = id }
}

func setWith(id int) func(*api.Schema, *api.Change) {
	return func(_ *api.Schema, c *api.Change) { c.With = id }
}

func setParent(id int) func(*api.Schema, *api.Change) {
	return func(_ *api.Schema, c *api.Change) { c.Parent = id }
}

func setType(typ int) func(*api.Schema, *api.Change) {
	return func(_ *api.Schema, c *api.Change) { c.Type = typ }
}

func setName(name string) func(*api.Schema, *api.Change) {
	return func(_ *api.Schema, c *api.Change) { c.Name = name }
}

func setSep(sep string) func(*api.Schema, *api.Change) {
	return func(_ *api.Schema, c *api.Change) { c.Sep = sep }
}

func setNext(s *api.Schema, _ *api.Change) { s.Next = greatest }

// fill adds fields, which have nothing to do with a change, until there are 64.
func fill(s *api.Schema, _ *api.Change) {
	for len(s.Fields) < 64 {
		*s = added(*s, fmt.Sprint("filler", s.Next), api.Int, 0)
	}
}

// P6.1, S3: each error alone, each pair of errors, and every set of more: the first one in the order of S3 counts.
func TestOrderOfErrors(t *testing.T) {
	for _, x := range []struct {
		c      api.Change
		faults []fault // in the order of S3
	}{
		{api.Change{Kind: api.AddField, Name: "new", Type: api.Int, Parent: 1}, []fault{{api.ErrType, setType(7)},
			{api.ErrParent, setParent(5)}, {api.ErrName, setName("A")}, {api.ErrBig, setNext}}},
		{api.Change{Kind: api.AddField, Name: "new", Type: api.Nest, Parent: 1}, []fault{{api.ErrType, setType(0)},
			{api.ErrParent, setParent(15)}, {api.ErrName, setName("")}, {api.ErrBig, fill}}},
		{api.Change{Kind: api.AddField, Name: "new", Type: api.Int, Parent: 12}, []fault{{api.ErrName, setName("h")},
			{api.ErrBig, fill}, {api.ErrBig, setNext}}},
		{api.Change{Kind: api.DropField, ID: 11}, []fault{{api.ErrField, setID(4)}}},
		{api.Change{Kind: api.DropField, ID: 11}, []fault{{api.ErrParent, setID(8)}}},
		{api.Change{Kind: api.RenameField, ID: 5, Name: "new"}, []fault{{api.ErrField, setID(4)},
			{api.ErrName, setName("A")}}},
		{api.Change{Kind: api.RenameField, ID: 5, Name: "new"}, []fault{{api.ErrField, setID(0)},
			{api.ErrName, setName("b")}}},
		{api.Change{Kind: api.WidenField, ID: 6}, []fault{{api.ErrField, setID(4)}}},
		{api.Change{Kind: api.WidenField, ID: 6}, []fault{{api.ErrWiden, setID(7)}}},
		{api.Change{Kind: api.MoveField, ID: 9, Parent: 11}, []fault{{api.ErrField, setID(14)},
			{api.ErrParent, setParent(5)}}},
		{api.Change{Kind: api.MoveField, ID: 9, Parent: 11}, []fault{{api.ErrField, setID(4)},
			{api.ErrName, setParent(0)}}},
		{api.Change{Kind: api.SplitField, ID: 5, Name: "x", Other: "y", Sep: "-"}, []fault{{api.ErrField, setID(4)},
			{api.ErrArg, setSep("")}, {api.ErrName, setName("b")}, {api.ErrBig, fill}}},
		{api.Change{Kind: api.SplitField, ID: 5, Name: "x", Other: "y", Sep: "-"}, []fault{{api.ErrType, setID(1)},
			{api.ErrArg, setSep(longName(17))}, {api.ErrName, setName("y")}, {api.ErrBig, setNext}}},
		{api.Change{Kind: api.JoinFields, ID: 5, With: 13, Name: "x", Sep: "-"}, []fault{{api.ErrField, setID(4)},
			{api.ErrType, setWith(6)}, {api.ErrArg, setSep("")}, {api.ErrName, setName("b")}, {api.ErrBig, setNext}}},
		{api.Change{Kind: api.JoinFields, ID: 5, With: 13, Name: "x", Sep: "-"}, []fault{{api.ErrField, setWith(4)},
			{api.ErrType, setID(7)}, {api.ErrArg, setSep("")}, {api.ErrName, setName("A")}, {api.ErrBig, setNext}}},
		{api.Change{Kind: api.JoinFields, ID: 5, With: 13, Name: "x", Sep: "-"}, []fault{{api.ErrType, setID(10)},
			{api.ErrParent, setWith(2)}, {api.ErrArg, setSep("")}, {api.ErrName, setName("a\n")}, {api.ErrBig, setNext}}},
		{api.Change{Kind: api.JoinFields, ID: 2, With: 3, Name: "x", Sep: "-"}, []fault{{api.ErrField, setID(4)},
			{api.ErrParent, setWith(13)}, {api.ErrArg, setSep(longName(17))}, {api.ErrName, setName("")},
			{api.ErrBig, setNext}}},
	} {
		for set := range 1 << len(x.faults) {
			s, c, want := mixed(), x.c, api.OK
			for i, f := range slices.Backward(x.faults) {
				if set>>i&1 == 1 {
					f.make(&s, &c)
					want = f.err
				}
			}
			if _, err := Apply(s, c); err != want {
				t.Errorf("Apply(%+v, %+v): %v instead of %v", s, c, err, want)
			}
		}
	}
}

// P6.1, S3: pairs of errors that depend on each other.
func TestOrderOfDependentErrors(t *testing.T) {
	nested := added(added(deep(), "g2", api.Int, 13), "g11", api.Int, 7)
	for _, x := range []struct {
		s   api.Schema
		c   api.Change
		err api.Errno
	}{
		// Where a field has its name, and: into itself, too deep, too deep inside of it, or nothing else.
		{mixed(), moving(1, 8), api.ErrParent},
		{nested, moving(11, 7), api.ErrParent},
		{nested, moving(2, 13), api.ErrParent},
		{renamed(nested, 14, "g11"), moving(14, 7), api.ErrName},
		// No new field is needed.
		{withNext(mixed(), greatest), moving(13, 11), api.OK},
		{withNext(wide(64), greatest), moving(64, 0), api.OK},
		{mixed(), api.Change{Kind: api.JoinFields, ID: 6, With: 6}, api.ErrField},
		{mixed(), api.Change{Kind: api.JoinFields, ID: 4, With: 4}, api.ErrField},
		{mixed(), api.Change{Kind: api.JoinFields, ID: 6, With: 7}, api.ErrType},
		{mixed(), api.Change{Kind: api.SplitField, ID: 6, Name: "y", Other: "y"}, api.ErrType},
		{mixed(), api.Change{Kind: api.SplitField, ID: 5, Name: "y", Other: "y"}, api.ErrArg},
		{deep(), api.Change{Kind: api.AddField, Name: "A", Type: api.Int, Parent: 8}, api.ErrParent},
		{deep(), api.Change{Kind: api.AddField, Name: "A", Parent: 8}, api.ErrType},
	} {
		got, err := Apply(x.s, x.c)
		if err != x.err || err != api.OK && !same(got, api.Schema{}) {
			t.Errorf("Apply(%+v, %+v) = %+v, %v instead of %v", x.s, x.c, got, err, x.err)
		}
	}
}

// P6.1, S3: changes of all kinds to all schemas.
func TestApply(t *testing.T) {
	for i, s := range schemas() {
		t.Run(fmt.Sprint(i), func(t *testing.T) {
			t.Parallel()
			possible := 0
			for _, c := range grid(s) {
				want, wantErr := wantApply(s, c)
				got, err := Apply(s, c)
				if !same(got, want) || err != wantErr {
					t.Fatalf("Apply(%+v, %+v) =\n%+v, %v, instead of\n%+v, %v", s, c, got, err, want, wantErr)
				}
				if err == api.OK {
					possible++
				}
			}
			if len(s.Fields) > 0 && possible < 20 {
				t.Errorf("only %d changes of %+v are possible", possible, s)
			}
		})
	}
}
