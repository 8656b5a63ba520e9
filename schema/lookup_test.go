package schema

import (
	"math"
	"slices"
	"strings"
	"testing"

	"fenland/api"
)

// P6.1, S2: Field.
func TestField(t *testing.T) {
	for _, s := range schemas() {
		m := byID(s)
		for _, id := range append(someIDs(s), noFields...) {
			want, found := m[id]
			if f, ok := Field(s, id); f != want || ok != found {
				t.Errorf("Field(%+v, %d) = %+v, %v", s, id, f, ok)
			}
		}
		for _, want := range s.Fields {
			if f, ok := Field(s, want.ID); f != want || !ok {
				t.Errorf("Field(%+v, %d) = %+v, %v", s, want.ID, f, ok)
			}
		}
	}
	if f, ok := Field(New(), 0); f != (api.Field{}) || ok {
		t.Errorf("the schema without fields has %+v", f)
	}
}

// P6.1, S2: the paths of mixed, and no path of another number.
func TestPath(t *testing.T) {
	for id, want := range map[int]string{1: "g", 2: "g.a", 3: "g.b", 5: "a", 6: "n", 7: "g.i", 8: "g.k.h", 9: "g.k.h.g",
		10: "b", 11: "empty", 12: "g.k", 13: "t"} {
		if got := Path(mixed(), id); got != want {
			t.Errorf("the path of %d is %q instead of %q", id, got, want)
		}
		if got, ok := Find(mixed(), want); got != id || !ok {
			t.Errorf("Find(%q) = %d, %v", want, got, ok)
		}
	}
	if got := Path(deep(), 8); got != "g1.g2.g3.g4.g5.g6.g7.g8" {
		t.Errorf("the path of the depth 8 is %q", got)
	}
	for n := range 8 {
		for _, backward := range []bool{false, true} {
			s := chained(n, backward, api.Int)
			if got, want := Path(s, n+1), strings.Repeat("g.", n)+"x"; got != want {
				t.Errorf("Path(%+v, %d) = %q", s, n+1, got)
			}
		}
	}
	for _, s := range []api.Schema{mixed(), New()} {
		for _, id := range noFields {
			if got := Path(s, id); got != "" {
				t.Errorf("the path of %d, which is no field, is %q", id, got)
			}
		}
	}
}

// P6.1, S2: Path and Find of all schemas.
func TestPaths(t *testing.T) {
	for _, s := range schemas() {
		paths := wantPaths(s)
		for _, id := range someIDs(s) {
			if got := Path(s, id); got != wantPath(s, id) {
				t.Errorf("Path(%+v, %d) = %q", s, id, got)
			}
		}
		for _, f := range s.Fields {
			path := Path(s, f.ID)
			if path != wantPath(s, f.ID) {
				t.Errorf("Path(%+v, %d) = %q", s, f.ID, path)
			}
			for _, other := range similar(path) {
				want, found := paths[other]
				if id, ok := Find(s, other); id != want || ok != found {
					t.Errorf("Find(%+v, %q) = %d, %v", s, other, id, ok)
				}
			}
		}
	}
}

// similar are strings that are similar to a path, and may be paths themselves.
func similar(path string) []string {
	l := []string{path, "", ".", "." + path, path + ".", path + ".a", "g." + path, "a." + path, path + "a", path + "\x00",
		strings.ToUpper(path), strings.ReplaceAll(path, ".", ""), strings.ReplaceAll(path, ".", ".."),
		strings.ReplaceAll(path, ".", "/")}
	for i := range path {
		l = append(l, path[:i], path[i:], path[:i]+path[i+1:])
	}
	return l
}

// P6.4: Find inverts Path, and different fields have different paths.
func TestFindInvertsPath(t *testing.T) {
	for _, s := range schemas() {
		used := map[string]bool{}
		for _, f := range s.Fields {
			path := Path(s, f.ID)
			if path == "" || used[path] {
				t.Errorf("the path %q of the field %d of %+v is that of another one", path, f.ID, s)
			}
			used[path] = true
			if id, ok := Find(s, path); id != f.ID || !ok {
				t.Errorf("Find(%+v, %q) = %d, %v", s, path, id, ok)
			}
		}
		for path := range used {
			for _, other := range similar(path) {
				id, ok := Find(s, other)
				if ok != used[other] || ok && Path(s, id) != other || !ok && id != 0 {
					t.Errorf("Find(%+v, %q) = %d, %v", s, other, id, ok)
				}
			}
		}
	}
}

// P6.4: a path that no field has.
func TestFindNothing(t *testing.T) {
	for _, path := range []string{"", ".", "x", "h", "i", "k.h", "g.k.h.g.g", "g.g", "empty.", "empty.a", "G", "g.A", "g a",
		"a.a", ".g", "g..k", "g.k.", "null", "0"} {
		for _, s := range []api.Schema{mixed(), New()} {
			if id, ok := Find(s, path); id != 0 || ok {
				t.Errorf("Find(%q) = %d, %v", path, id, ok)
			}
		}
	}
}

// P6.1, S2: Leaves.
func TestLeaves(t *testing.T) {
	for _, c := range []struct {
		s    api.Schema
		want []int
	}{
		{New(), nil},
		{mixed(), []int{2, 3, 5, 6, 7, 9, 10, 13}},
		{deep(), []int{9, 10, 14}},
		{chained(7, true, api.Nest), nil},
		{chained(7, true, api.Bool), []int{8}},
		{renumbered(withNext(mixed(), greatest), 13, greatest-1), []int{2, 3, 5, 6, 7, 9, 10, greatest - 1}},
	} {
		if got := Leaves(c.s); !slices.Equal(got, c.want) {
			t.Errorf("Leaves(%+v) = %v instead of %v", c.s, got, c.want)
		}
	}
	for _, s := range schemas() {
		l := Leaves(s)
		if !slices.IsSorted(l) {
			t.Errorf("Leaves(%+v) = %v", s, l)
		}
		for id, f := range byID(s) {
			if slices.Contains(l, id) != (f.Type != 6) {
				t.Errorf("Leaves(%+v) = %v", s, l)
			}
		}
		if len(slices.Compact(slices.Clone(l))) != len(l) || slices.Contains(l, 0) || slices.Contains(l, math.MaxInt) {
			t.Errorf("Leaves(%+v) = %v", s, l)
		}
	}
}
