package lens

import (
	"cmp"
	"slices"
	"strings"

	"fenland/api"
	"fenland/value"
)

func unchanged(r api.Row) api.Row { return r }

// dropping returns the function that sets a field to null.
func dropping(id int) func(api.Row) api.Row {
	return func(r api.Row) api.Row { return with(r, id, null()) }
}

// narrowing returns the function that sets a field to null if a Small can't have its value.
func narrowing(id int) func(api.Row) api.Row {
	return func(r api.Row) api.Row {
		v := valueOf(r, id)
		if !value.Valid(v, api.Small) {
			v = null()
		}
		return with(r, id, v)
	}
}

// dividing returns the function that replaces a text by its two parts.
func dividing(whole int, parts [2]int, sep string) func(api.Row) api.Row {
	return func(r api.Row) api.Row {
		a, b := divided(valueOf(r, whole), sep)
		return with(with(with(r, whole, null()), parts[0], a), parts[1], b)
	}
}

// connecting returns the function that replaces two texts by what connect makes of them.
func connecting(parts [2]int, whole int, connect func(a, b api.Value) api.Value) func(api.Row) api.Row {
	return func(r api.Row) api.Row {
		v := connect(valueOf(r, parts[0]), valueOf(r, parts[1]))
		return with(with(with(r, parts[0], null()), parts[1], null()), whole, v)
	}
}

// divided returns the two parts of a text. Both are null if it is null.
func divided(t api.Value, sep string) (api.Value, api.Value) {
	before, behind, found := strings.Cut(t.S, sep)
	if !found {
		return t, null()
	}
	return api.Value{S: before}, api.Value{S: behind}
}

// undivided returns the text that divided has divided: where there is no second part, there was no separator.
func undivided(a, b api.Value, sep string) api.Value {
	if b.Null {
		return a
	}
	return connected(a, b, sep)
}

// connected returns two texts and the separator between them, as far as it is not too long for a value.
func connected(a, b api.Value, sep string) api.Value {
	if a.Null && b.Null {
		return null()
	}
	t := a.S + sep + b.S
	return api.Value{S: t[:min(len(t), api.MaxText)]}
}

func null() api.Value { return api.Value{Null: true} }

// valueOf returns the value of a field.
func valueOf(r api.Row, id int) api.Value {
	at, found := find(r, id)
	if !found {
		return null()
	}
	return r.Cells[at].V
}

// with returns r with a field set to v.
func with(r api.Row, id int, v api.Value) api.Row {
	at, found := find(r, id)
	end := at
	if found {
		end++
	}
	var cell []api.Cell
	if !v.Null {
		cell = []api.Cell{{ID: id, V: v}}
	}
	return api.Row{Cells: slices.Concat(r.Cells[:at], cell, r.Cells[end:])}
}

// find returns where the cell of a field is, or would be.
func find(r api.Row, id int) (int, bool) {
	return slices.BinarySearchFunc(r.Cells, id, func(c api.Cell, id int) int { return cmp.Compare(c.ID, id) })
}
