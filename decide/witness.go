package decide

import (
	"cmp"
	"math"
	"slices"

	"fenland/api"
	"fenland/pred"
	"fenland/value"
)

// witness returns a row that fits s and satisfies one of the terms.
func witness(s api.Schema, t terms) (api.Row, bool) {
	for _, addTo := range t.l {
		if r, ok := satisfying(s, addTo(nil)); ok {
			return r, true
		}
	}
	return api.Row{}, false
}

// satisfying returns a row that fits s and for which all literals are yes. The fields can be looked at one by one,
// since each literal is about one of them.
func satisfying(s api.Schema, literals []api.Pred) (api.Row, bool) {
	var r api.Row
	groups := byField(literals)
	for _, f := range s.Fields {
		l, ok := groups[f.ID]
		if !ok {
			continue
		}
		c, ok := allowed(f, l)
		if !ok {
			return api.Row{}, false
		}
		if !c.V.Null {
			r.Cells = append(r.Cells, c)
		}
	}
	return r, true
}

func byField(literals []api.Pred) map[int][]api.Pred {
	groups := map[int][]api.Pred{}
	for _, p := range literals {
		id := p.ID
		if p.Op == api.Not {
			id = p.Kids[0].ID
		}
		groups[id] = append(groups[id], p)
	}
	return groups
}

// allowed returns a cell of the field f, perhaps with null, for which all literals in l are yes. They are about f.
func allowed(f api.Field, l []api.Pred) (api.Cell, bool) {
	for _, v := range candidates(f.Type, l) {
		c := api.Cell{ID: f.ID, V: v}
		r := api.Row{Cells: []api.Cell{c}}
		fails := func(p api.Pred) bool { return !pred.Match(p, r) }
		// A number may be too great for the type.
		if value.Valid(v, f.Type) && !slices.ContainsFunc(l, fails) {
			return c, true
		}
	}
	return api.Cell{}, false
}

// candidates returns values. If there is a value of the type t for which all literals in l are yes, there is one among
// these.
func candidates(t int, l []api.Pred) []api.Value {
	for _, p := range l {
		if p.Op == api.In {
			return p.Set
		}
	}
	null := api.Value{Null: true}
	if t == api.Text {
		return []api.Value{null, {S: text(l)}}
	}
	return []api.Value{null, {N: number(l, least(t))}}
}

// least returns the least number of a type.
func least(t int) int64 {
	switch t {
	case api.Bool:
		return 0
	case api.Small:
		return math.MinInt32
	case api.Day:
		return -1000000
	}
	return math.MinInt64
}

// number returns the least number, from low on, that the literals in l with Between do not exclude as too small, and
// those with Not do not exclude. If there is none, it returns any number.
func number(l []api.Pred, low int64) int64 {
	var gaps [][2]int64
	for _, p := range l {
		switch p.Op {
		case api.Between:
			low = max(low, p.Lo)
		case api.Not:
			gaps = append(gaps, ranges(p.Kids[0])...)
		}
	}
	slices.SortFunc(gaps, func(a, b [2]int64) int { return cmp.Compare(a[0], b[0]) })
	for _, g := range gaps {
		if g[0] <= low && low <= g[1] {
			low = g[1] + 1 // after an overflow, there is none
		}
	}
	return low
}

// ranges returns the ranges of the numbers for which a Between or In is yes.
func ranges(p api.Pred) [][2]int64 {
	if p.Op == api.Between {
		return [][2]int64{{p.Lo, p.Hi}}
	}
	var l [][2]int64
	for _, v := range p.Set {
		l = append(l, [2]int64{v.N, v.N})
	}
	return l
}

// text returns a text that begins with the longest Prefix in l, and that the literals in l with Not do not exclude. If
// there is none, it returns any text.
func text(l []api.Pred) string {
	start := ""
	prefixes, texts := map[string]bool{}, map[string]bool{}
	for _, p := range l {
		switch p.Op {
		case api.Prefix:
			if len(p.Text) > len(start) {
				start = p.Text
			}
		case api.Not:
			exclude(p.Kids[0], prefixes, texts)
		}
	}
	// Only texts that are excluded themselves are searched for longer ones, so that the search ends soon.
	var search func(string) (string, bool)
	search = func(s string) (string, bool) {
		switch {
		case prefixes[s]:
			return "", false
		case !texts[s]:
			return s, true
		case len(s) == api.MaxText:
			return "", false
		}
		for c := range math.MaxUint8 + 1 {
			if found, ok := search(s + string([]byte{byte(c)})); ok {
				return found, true
			}
		}
		return "", false
	}
	found, _ := search(start)
	return found
}

// exclude adds the texts for which a Prefix or In is yes.
func exclude(p api.Pred, prefixes, texts map[string]bool) {
	if p.Op == api.Prefix {
		prefixes[p.Text] = true
	}
	for _, v := range p.Set {
		texts[v.S] = true
	}
}
