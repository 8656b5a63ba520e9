package schema

import (
	"slices"

	"fenland/api"
)

const maxSeparator = 16

// Apply returns the schema after a change.
func Apply(s api.Schema, c api.Change) (api.Schema, api.Errno) {
	edited, ok := kinds()[c.Kind]
	if !ok {
		return api.Schema{}, api.ErrArg
	}
	after, err := edited(edit{s, c})
	// What no kind of change may violate comes last in the order of the errors of each of them.
	switch {
	case err != api.OK:
		return api.Schema{}, err
	case !placed(after.Fields):
		return api.Schema{}, api.ErrParent
	case !named(after.Fields):
		return api.Schema{}, api.ErrName
	case !limited(after):
		return api.Schema{}, api.ErrBig
	}
	return after, api.OK
}

// After applies changes one after the other, as far as they are possible, and returns the last schema and how many
// changes led to it.
func After(l []api.Change) (api.Schema, int, api.Errno) {
	s := New()
	for i, c := range l {
		next, err := Apply(s, c)
		if err != api.OK {
			return s, i, err
		}
		s = next
	}
	return s, len(l), api.OK
}

// edit is a change and the schema before it. Its methods return the schema after it, in new memory. They look at what
// the change refers to, but not at whether the fields after it have places and names and keep the limits.
type edit struct {
	s api.Schema
	c api.Change
}

// kinds returns how each kind of change is made.
func kinds() map[int]func(edit) (api.Schema, api.Errno) {
	return map[int]func(edit) (api.Schema, api.Errno){
		api.AddField:    edit.add,
		api.DropField:   edit.drop,
		api.RenameField: edit.rename,
		api.WidenField:  edit.widen,
		api.MoveField:   edit.move,
		api.SplitField:  edit.split,
		api.JoinFields:  edit.join,
	}
}

func (e edit) add() (api.Schema, api.Errno) {
	if !isType(e.c.Type) {
		return api.Schema{}, api.ErrType
	}
	return with(e.s, e.c.Name, e.c.Type, e.c.Parent), api.OK
}

func (e edit) drop() (api.Schema, api.Errno) {
	f, ok := Field(e.s, e.c.ID)
	if !ok {
		return api.Schema{}, api.ErrField
	}
	// Fields inside of it are left without a place, which Apply notices.
	return without(e.s, f.ID), api.OK
}

func (e edit) rename() (api.Schema, api.Errno) {
	f, ok := Field(e.s, e.c.ID)
	if !ok {
		return api.Schema{}, api.ErrField
	}
	f.Name = e.c.Name
	return replacing(e.s, f), api.OK
}

func (e edit) widen() (api.Schema, api.Errno) {
	f, ok := Field(e.s, e.c.ID)
	switch {
	case !ok:
		return api.Schema{}, api.ErrField
	case f.Type != api.Small:
		return api.Schema{}, api.ErrWiden
	}
	f.Type = api.Int
	return replacing(e.s, f), api.OK
}

func (e edit) move() (api.Schema, api.Errno) {
	f, ok := Field(e.s, e.c.ID)
	if !ok {
		return api.Schema{}, api.ErrField
	}
	// Inside of itself, it is in a cycle and has no place, which Apply notices.
	f.Parent = e.c.Parent
	return replacing(e.s, f), api.OK
}

func (e edit) split() (api.Schema, api.Errno) {
	f, ok := Field(e.s, e.c.ID)
	switch {
	case !ok:
		return api.Schema{}, api.ErrField
	case f.Type != api.Text:
		return api.Schema{}, api.ErrType
	case !isSeparator(e.c.Sep):
		return api.Schema{}, api.ErrArg
	}
	s := with(without(e.s, f.ID), e.c.Name, api.Text, f.Parent)
	return with(s, e.c.Other, api.Text, f.Parent), api.OK
}

func (e edit) join() (api.Schema, api.Errno) {
	f, ok := Field(e.s, e.c.ID)
	other, otherOK := Field(e.s, e.c.With)
	switch {
	case !ok || !otherOK || f.ID == other.ID:
		return api.Schema{}, api.ErrField
	case f.Type != api.Text || other.Type != api.Text:
		return api.Schema{}, api.ErrType
	case f.Parent != other.Parent:
		return api.Schema{}, api.ErrParent
	case !isSeparator(e.c.Sep):
		return api.Schema{}, api.ErrArg
	}
	s := without(without(e.s, f.ID), other.ID)
	return with(s, e.c.Name, api.Text, f.Parent), api.OK
}

func isSeparator(s string) bool { return len(s) >= 1 && len(s) <= maxSeparator }

// with returns s with a new field.
func with(s api.Schema, name string, typ, parent int) api.Schema {
	f := api.Field{ID: s.Next, Name: name, Type: typ, Parent: parent}
	return api.Schema{Fields: append(slices.Clone(s.Fields), f), Next: s.Next + 1}
}

// without returns s without a field, whose number stays used.
func without(s api.Schema, id int) api.Schema {
	var l []api.Field
	for _, f := range s.Fields {
		if f.ID != id {
			l = append(l, f)
		}
	}
	return api.Schema{Fields: l, Next: s.Next}
}

// replacing returns s with f instead of the field that has its number.
func replacing(s api.Schema, f api.Field) api.Schema {
	l := slices.Clone(s.Fields)
	for i := range l {
		if l[i].ID == f.ID {
			l[i] = f
		}
	}
	return api.Schema{Fields: l, Next: s.Next}
}
