package schema

import (
	"cmp"
	"maps"
	"regexp"
	"slices"
	"strings"

	"fenland/api"
	"fenland/value"
)

// greatest is the greatest Next.
const greatest = 1073741824

var nameForm = regexp.MustCompile(`^[a-z0-9_]{1,32}$`)

// same tells whether two schemas are equal, nil and empty slices being interchangeable.
func same(a, b api.Schema) bool { return a.Next == b.Next && slices.Equal(a.Fields, b.Fields) }

// byID are the fields of a schema by their numbers.
func byID(s api.Schema) map[int]api.Field {
	m := map[int]api.Field{}
	for _, f := range s.Fields {
		m[f.ID] = f
	}
	return m
}

// wantAround are the numbers of a field and of the groups around it, from the inside out, and false if there is no end
// of them, or one is missing.
func wantAround(m map[int]api.Field, id int) ([]int, bool) {
	var l []int
	for range len(m) + 1 {
		if id == 0 {
			return l, true
		}
		f, ok := m[id]
		if !ok {
			return nil, false
		}
		l, id = append(l, id), f.Parent
	}
	return nil, false
}

// wantDepth is the definition in 'Types': 0 for no field, and -1 for a field that has no depth.
func wantDepth(m map[int]api.Field, id int) int {
	l, ok := wantAround(m, id)
	if !ok {
		return -1
	}
	return len(l)
}

// wantValid is the definition in 'Types'. Numbers begin with 1, so that an empty schema has a Next of at least 1.
func wantValid(s api.Schema) bool {
	type place struct {
		parent int
		name   string
	}
	m, names, last := byID(s), map[place]bool{}, 0
	for _, f := range s.Fields {
		inGroup := place{f.Parent, f.Name}
		depth := wantDepth(m, f.ID)
		switch {
		case f.ID <= last, f.ID >= s.Next, !nameForm.MatchString(f.Name), names[inGroup], f.Type < 1, f.Type > 6:
			return false
		case f.Parent != 0 && m[f.Parent].Type != 6, depth < 1, depth > 8:
			return false
		}
		names[inGroup], last = true, f.ID
	}
	return s.Next >= 1 && s.Next <= greatest && len(s.Fields) <= 64
}

// wantPath is S2.
func wantPath(s api.Schema, id int) string {
	m := byID(s)
	f, ok := m[id]
	switch {
	case !ok:
		return ""
	case f.Parent == 0:
		return f.Name
	}
	return wantPath(s, f.Parent) + "." + f.Name
}

// wantPaths are the numbers of the fields by their paths, as in S2.
func wantPaths(s api.Schema) map[string]int {
	m := map[string]int{}
	for _, f := range s.Fields {
		m[wantPath(s, f.ID)] = f.ID
	}
	return m
}

// wantFits is S5.
func wantFits(s api.Schema, r api.Row) bool {
	m := byID(s)
	for i, c := range r.Cells {
		f, ok := m[c.ID]
		switch {
		case i > 0 && r.Cells[i-1].ID >= c.ID, !ok, f.Type == 6, c.V.Null, !value.Valid(c.V, f.Type):
			return false
		}
	}
	return true
}

// check is a condition under which a change is not possible.
type check struct {
	fails bool
	err   api.Errno
}

// changed is a schema that is being changed, and the change.
type changed struct {
	api.Change
	fields map[int]api.Field
	next   int
}

// wantApply is S3: the checks of a kind of change in their order, and what it does.
func wantApply(s api.Schema, c api.Change) (api.Schema, api.Errno) {
	x := changed{c, byID(s), s.Next}
	if c.Kind < 1 || c.Kind > 7 {
		return api.Schema{}, api.ErrArg
	}
	for _, k := range x.checks() {
		if k.fails {
			return api.Schema{}, k.err
		}
	}
	x.change()
	l := slices.SortedFunc(maps.Values(x.fields), func(a, b api.Field) int { return cmp.Compare(a.ID, b.ID) })
	return api.Schema{Fields: l, Next: x.next}, api.OK
}

func (x *changed) checks() []check {
	f, ok := x.fields[x.ID]
	w, okWith := x.fields[x.With]
	group := x.Parent == 0 || x.fields[x.Parent].Type == 6
	sep := len(x.Sep) < 1 || len(x.Sep) > 16
	missing := check{!ok, api.ErrField}
	switch x.Kind {
	case api.AddField:
		return []check{{x.Type < 1 || x.Type > 6, api.ErrType},
			{!group || wantDepth(x.fields, x.Parent) > 7, api.ErrParent},
			{x.taken(x.Name, x.Parent), api.ErrName}, {len(x.fields) == 64 || x.next == greatest, api.ErrBig}}
	case api.DropField:
		return []check{missing, {x.isParent(x.ID), api.ErrParent}}
	case api.RenameField:
		return []check{missing, {x.taken(x.Name, f.Parent, x.ID), api.ErrName}}
	case api.WidenField:
		return []check{missing, {f.Type != 2, api.ErrWiden}}
	case api.MoveField:
		return []check{missing, {!group || x.inside(x.Parent), api.ErrParent}, {ok && x.tooDeep(), api.ErrParent},
			{x.taken(f.Name, x.Parent, x.ID), api.ErrName}}
	case api.SplitField:
		return []check{missing, {f.Type != 4, api.ErrType}, {sep, api.ErrArg}, {x.taken(x.Name, f.Parent, x.ID) ||
			x.taken(x.Other, f.Parent, x.ID) || x.Name == x.Other, api.ErrName},
			{len(x.fields) == 64 || x.next > greatest-2, api.ErrBig}}
	}
	return []check{missing, {!okWith || x.ID == x.With, api.ErrField}, {f.Type != 4 || w.Type != 4, api.ErrType},
		{f.Parent != w.Parent, api.ErrParent}, {sep, api.ErrArg},
		{x.taken(x.Name, f.Parent, x.ID, x.With), api.ErrName}, {x.next == greatest, api.ErrBig}}
}

// taken is the definition in S3.
func (x *changed) taken(name string, parent int, except ...int) bool {
	for id, f := range x.fields {
		if f.Parent == parent && f.Name == name && !slices.Contains(except, id) {
			return true
		}
	}
	return !nameForm.MatchString(name)
}

func (x *changed) isParent(id int) bool {
	for _, f := range x.fields {
		if f.Parent == id {
			return true
		}
	}
	return false
}

// inside tells whether a field is the one that is changed, or lies inside it.
func (x *changed) inside(id int) bool {
	l, _ := wantAround(x.fields, id)
	return slices.Contains(l, x.ID)
}

// tooDeep tells whether the depth of a field would become greater than 8 if the one that is changed were moved.
func (x *changed) tooDeep() bool {
	deeper := wantDepth(x.fields, x.Parent) + 1 - wantDepth(x.fields, x.ID)
	for id := range x.fields {
		if x.inside(id) && wantDepth(x.fields, id)+deeper > 8 {
			return true
		}
	}
	return false
}

func (x *changed) change() {
	f := x.fields[x.ID]
	switch x.Kind {
	case api.AddField:
		x.put(x.Name, x.Type, x.Parent)
		return
	case api.RenameField:
		f.Name = x.Name
	case api.WidenField:
		f.Type = 3
	case api.MoveField:
		f.Parent = x.Parent
	}
	x.fields[x.ID] = f
	switch x.Kind {
	case api.DropField:
		delete(x.fields, x.ID)
	case api.SplitField:
		delete(x.fields, x.ID)
		x.put(x.Name, 4, f.Parent)
		x.put(x.Other, 4, f.Parent)
	case api.JoinFields:
		delete(x.fields, x.ID)
		delete(x.fields, x.With)
		x.put(x.Name, 4, f.Parent)
	}
}

// put adds a field with the next number.
func (x *changed) put(name string, typ, parent int) {
	x.fields[x.next] = api.Field{ID: x.next, Name: name, Type: typ, Parent: parent}
	x.next++
}

// longName is a name of n bytes.
func longName(n int) string { return strings.Repeat("x", n) }
