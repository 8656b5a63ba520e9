package schema

import (
	"fmt"
	"math"
	"math/rand"
	"slices"
	"strings"

	"fenland/api"
	"fenland/value"
)

var null = api.Value{Null: true}

// mixed is a schema with groups in groups, also in such as have greater numbers, with equal names in different groups,
// and with numbers that are not in use any more. The groups are g, g.k, g.k.h and empty.
func mixed() api.Schema {
	return api.Schema{Next: 15, Fields: []api.Field{
		{ID: 1, Name: "g", Type: api.Nest},
		{ID: 2, Name: "a", Type: api.Text, Parent: 1},
		{ID: 3, Name: "b", Type: api.Text, Parent: 1},
		{ID: 5, Name: "a", Type: api.Text},
		{ID: 6, Name: "n", Type: api.Small},
		{ID: 7, Name: "i", Type: api.Int, Parent: 1},
		{ID: 8, Name: "h", Type: api.Nest, Parent: 12},
		{ID: 9, Name: "g", Type: api.Day, Parent: 8},
		{ID: 10, Name: "b", Type: api.Bool},
		{ID: 11, Name: "empty", Type: api.Nest},
		{ID: 12, Name: "k", Type: api.Nest, Parent: 1},
		{ID: 13, Name: "t", Type: api.Text},
	}}
}

// deep is a schema with the groups g1 to g8, each inside the one before it, and with the groups g11 to g13 in the same
// way, which have the depths 1 to 3; a leaf f9 of the depth 8, f10 of the depth 1, and f14 inside of g13.
func deep() api.Schema {
	s := api.Schema{Next: 20}
	add := func(id int, name string, typ, parent int) {
		s.Fields = append(s.Fields, api.Field{ID: id, Name: fmt.Sprint(name, id), Type: typ, Parent: parent})
	}
	for id := 1; id <= 8; id++ {
		add(id, "g", api.Nest, id-1)
	}
	add(9, "f", api.Text, 7)
	add(10, "f", api.Text, 0)
	add(11, "g", api.Nest, 0)
	add(12, "g", api.Nest, 11)
	add(13, "g", api.Nest, 12)
	add(14, "f", api.Small, 13)
	return s
}

// wide is a schema of n fields: a group, and texts inside and outside of it.
func wide(n int) api.Schema {
	s := api.Schema{Next: n + 1, Fields: []api.Field{{ID: 1, Name: "g", Type: api.Nest}}}
	for id := 2; id <= n; id++ {
		s.Fields = append(s.Fields, api.Field{ID: id, Name: fmt.Sprint("f", id), Type: api.Text, Parent: id % 2})
	}
	return s
}

// withNext is the same schema with another Next.
func withNext(s api.Schema, next int) api.Schema { return api.Schema{Fields: s.Fields, Next: next} }

// schemas are valid schemas: small and large ones, and such as are close to the limits.
func schemas() []api.Schema {
	l := []api.Schema{New(), {Next: 7}, {Next: greatest}, mixed(), deep(), wide(63), wide(64)}
	for _, s := range []api.Schema{mixed(), wide(62), wide(63), wide(64)} {
		for _, next := range []int{greatest - 3, greatest - 2, greatest - 1, greatest} {
			l = append(l, withNext(s, next))
		}
	}
	last := mixed()
	last.Fields[11].ID = greatest - 1
	l = append(l, withNext(last, greatest))
	r := rand.New(rand.NewSource(1))
	for n := range 24 {
		l = append(l, anySchema(r, 8*n))
	}
	return l
}

// pick returns any element.
func pick[T any](r *rand.Rand, l []T) T { return l[r.Intn(len(l))] }

var separators = []string{"-", ", ", strings.Repeat("-", 16), "\x00", "", strings.Repeat("-", 17)}

// anyChange is a change that is often possible.
func anyChange(r *rand.Rand, s api.Schema) api.Change {
	ids := []int{-1, 0, s.Next}
	parents := []int{0, 0, s.Next, r.Intn(20)}
	for _, f := range s.Fields {
		ids = append(ids, f.ID, f.ID, f.ID)
		if f.Type == api.Nest {
			parents = append(parents, f.ID)
		}
	}
	names := []string{"", "A", "a b", longName(33), longName(32), "_"}
	for range 80 {
		names = append(names, fmt.Sprint("f", r.Intn(60)))
	}
	return api.Change{
		Kind: pick(r, []int{0, 1, 1, 1, 1, 1, 1, 1, 2, 3, 3, 4, 4, 5, 5, 5, 5, 6, 6, 6, 7, 7, 7, 7, 7, 8, -1}),
		ID:   pick(r, ids), With: pick(r, ids), Name: pick(r, names), Other: pick(r, names),
		Type: pick(r, []int{0, 1, 2, 2, 3, 4, 4, 4, 4, 5, 6, 6, 6, 7}), Parent: pick(r, parents),
		Sep: separators[max(0, r.Intn(10)-4)],
	}
}

// anySchema is the schema after those of n changes that are possible.
func anySchema(r *rand.Rand, n int) api.Schema {
	s := api.Schema{Next: 1}
	for range n {
		if after, err := wantApply(s, anyChange(r, s)); err == api.OK {
			s = after
		}
	}
	return s
}

// someIDs are numbers of fields, of which there are not too many, and numbers that no field has.
func someIDs(s api.Schema) []int {
	l := []int{math.MinInt, -1, 0, 4, s.Next, greatest, 1<<32 + 1, math.MaxInt}
	step := 1 + len(s.Fields)/12
	for i := 0; i < len(s.Fields); i += step {
		l = append(l, s.Fields[i].ID)
	}
	return l
}

// someNames are names of fields, other names, and strings that are no names.
func someNames(s api.Schema) []string {
	l := []string{"new", "other", "", "A", "a.b", longName(32), longName(33)}
	for i := 0; i < len(s.Fields); i += 1 + len(s.Fields)/5 {
		l = append(l, s.Fields[i].Name)
	}
	return l
}

// grid are changes of every kind with what each kind mentions, and anything in what it does not mention.
func grid(s api.Schema) []api.Change {
	r := rand.New(rand.NewSource(2))
	var others, l []api.Change
	for range 100 {
		others = append(others, anyChange(r, s))
	}
	add := func(kind int, mention func(c *api.Change)) {
		c := pick(r, others)
		c.Kind = kind
		mention(&c)
		l = append(l, c)
	}
	ids, names := someIDs(s), someNames(s)
	for _, parent := range ids {
		for _, name := range names {
			for typ := -1; typ <= 8; typ++ {
				add(api.AddField, func(c *api.Change) { c.Name, c.Type, c.Parent = name, typ, parent })
			}
		}
	}
	for _, id := range ids {
		for _, kind := range []int{math.MinInt, -1, 0, api.DropField, api.WidenField, 8, 257, math.MaxInt} {
			add(kind, func(c *api.Change) { c.ID = id })
		}
		for _, name := range names {
			add(api.RenameField, func(c *api.Change) { c.ID, c.Name = id, name })
			for _, other := range names {
				add(api.SplitField, func(c *api.Change) { c.ID, c.Name, c.Other = id, name, other })
			}
			for _, with := range ids {
				add(api.JoinFields, func(c *api.Change) { c.ID, c.With, c.Name = id, with, name })
			}
		}
		for _, parent := range ids {
			add(api.MoveField, func(c *api.Change) { c.ID, c.Parent = id, parent })
		}
	}
	return l
}

// someValues are values of which each type has some that are valid.
func someValues() []api.Value {
	return []api.Value{{}, {N: 1}, {N: 2}, {N: -1}, {N: 1000000}, {N: 1000001}, {N: math.MaxInt32}, {N: math.MinInt32},
		{N: math.MinInt32 - 1}, {N: math.MaxInt32 + 1}, {N: math.MaxInt64}, {S: "a"}, {S: longName(200)},
		{S: longName(201)}, {N: 1, S: "a"}, null, {Null: true, N: 1}, {Null: true, S: "a"}}
}

// anyRow is a row that fits a schema.
func anyRow(r *rand.Rand, s api.Schema) api.Row {
	var row api.Row
	for _, f := range s.Fields {
		v := pick(r, someValues())
		if !v.Null && value.Valid(v, f.Type) {
			row.Cells = append(row.Cells, api.Cell{ID: f.ID, V: v})
		}
	}
	return row
}

// mutated is a row that perhaps fits no longer.
func mutated(r *rand.Rand, s api.Schema, row api.Row) api.Row {
	l := slices.Clone(row.Cells)
	at := r.Intn(len(l) + 1)
	cell := api.Cell{ID: pick(r, someIDs(s)), V: pick(r, someValues())}
	switch r.Intn(4) {
	case 0:
		l = slices.Insert(l, at, cell)
	case 1:
		if at < len(l) {
			l[at].V = cell.V
		}
	case 2:
		if at < len(l) {
			l[at].ID = cell.ID
		}
	case 3:
		if at+1 < len(l) {
			l[at], l[at+1] = l[at+1], l[at]
		}
	}
	return api.Row{Cells: l}
}
