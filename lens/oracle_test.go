package lens_test

import (
	"maps"
	"slices"

	"fenland/api"
	"fenland/schema"
)

// values are the values of a row; a field that is null has none.
type values map[int]api.Value

func valuesOf(r api.Row) values {
	m := values{}
	for _, c := range r.Cells {
		m[c.ID] = c.V
	}
	return m
}

func (m values) row() api.Row {
	var r api.Row
	for _, id := range slices.Sorted(maps.Keys(m)) {
		r.Cells = append(r.Cells, api.Cell{ID: id, V: m[id]})
	}
	return r
}

// take sets a field to null, and returns its text and whether it was not null.
func (m values) take(id int) (string, bool) {
	v, ok := m[id]
	delete(m, id)
	return v.S, ok
}

func (m values) put(id int, s string) { m[id] = api.Value{S: s} }

// wantDivided are the parts of a text that are not null, as 'Types' says.
func wantDivided(t, sep string) []string {
	for i := 0; i+len(sep) <= len(t); i++ {
		if t[i:i+len(sep)] == sep {
			return []string{t[:i], t[i+len(sep):]}
		}
	}
	return []string{t}
}

// wantConnected is the text of two values of which one is not null, as 'Types' says.
func wantConnected(a, b, sep string) string {
	var t []byte
	for _, s := range []string{a, sep, b} {
		for i := range len(s) {
			if len(t) < 200 {
				t = append(t, s[i])
			}
		}
	}
	return string(t)
}

// wantForward is A1.
func wantForward(s api.Schema, c api.Change, r api.Row) api.Row {
	if _, err := schema.Apply(s, c); err != api.OK || !schema.Fits(s, r) {
		return api.Row{}
	}
	m := valuesOf(r)
	switch c.Kind {
	case api.DropField:
		delete(m, c.ID)
	case api.SplitField:
		if t, ok := m.take(c.ID); ok {
			for i, part := range wantDivided(t, c.Sep) {
				m.put(s.Next+i, part)
			}
		}
	case api.JoinFields:
		a, okA := m.take(c.ID)
		b, okB := m.take(c.With)
		if okA || okB {
			m.put(s.Next, wantConnected(a, b, c.Sep))
		}
	}
	return m.row()
}

// wantBack is A2.
func wantBack(s api.Schema, c api.Change, r api.Row) api.Row {
	if to, err := schema.Apply(s, c); err != api.OK || !schema.Fits(to, r) {
		return api.Row{}
	}
	m := valuesOf(r)
	switch c.Kind {
	case api.AddField:
		delete(m, s.Next)
	case api.WidenField:
		if v := m[c.ID]; v.N < -2147483648 || v.N > 2147483647 {
			delete(m, c.ID)
		}
	case api.SplitField:
		a, okA := m.take(s.Next)
		b, okB := m.take(s.Next + 1)
		if okB {
			m.put(c.ID, wantConnected(a, b, c.Sep))
		} else if okA {
			m.put(c.ID, a)
		}
	case api.JoinFields:
		if t, ok := m.take(s.Next); ok {
			for i, part := range wantDivided(t, c.Sep) {
				m.put([]int{c.ID, c.With}[i], part)
			}
		}
	}
	return m.row()
}

// wantTranslate is A3.
func wantTranslate(l []api.Change, r api.Row, w [2]int) (api.Row, api.Errno) {
	for _, at := range w {
		if at < 0 || at > len(l) {
			return api.Row{}, api.ErrArg
		}
	}
	path := []api.Schema{schema.New()}
	for i := range max(w[0], w[1]) {
		to, err := schema.Apply(path[i], l[i])
		if err != api.OK {
			return api.Row{}, err
		}
		path = append(path, to)
	}
	if !schema.Fits(path[w[0]], r) {
		return api.Row{}, api.ErrType
	}
	for i := w[0]; i < w[1]; i++ {
		r = wantForward(path[i], l[i], r)
	}
	for i := w[0]; i > w[1]; i-- {
		r = wantBack(path[i-1], l[i-1], r)
	}
	return r, api.OK
}

// wantLossless is A4.
func wantLossless(s api.Schema, c api.Change, r api.Row) bool {
	_, err := schema.Apply(s, c)
	return err == api.OK && schema.Fits(s, r) && same(wantBack(s, c, wantForward(s, c, r)), r)
}
