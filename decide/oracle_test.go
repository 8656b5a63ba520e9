package decide_test

import (
	"math/rand"
	"slices"

	"fenland/api"
	"fenland/pred"
	"fenland/value"
)

// The modes of 'Types', and the mode in which the table uses the Kid of a Not.
var opposite = map[string]string{"yes": "no", "no": "yes", "not yes": "not no", "not no": "not yes"}

// wantTerms are the terms of a predicate in a mode, and whether they are too many.
func wantTerms(p api.Pred, mode string) (l [][]api.Pred, many bool) {
	holds := mode == "yes" || mode == "not no"
	switch {
	case p.Op == api.Not:
		return wantTerms(p.Kids[0], opposite[mode])
	case p.Op == api.And || p.Op == api.Or:
		var lists [][][]api.Pred
		for _, k := range p.Kids {
			t, tooMany := wantTerms(k, mode)
			lists, many = append(lists, t), many || tooMany
		}
		if many || holds == (p.Op == api.And) && wantSize(lists) > 256 {
			return nil, true
		}
		if holds == (p.Op == api.And) {
			return wantProduct(lists), false
		}
		l = slices.Concat(lists...)
	case p.Op == api.True && holds:
		l = [][]api.Pred{{}}
	case p.Op == api.True:
	case holds:
		l = [][]api.Pred{{p}}
	default:
		l = [][]api.Pred{{not(p)}}
	}
	if mode != "yes" && mode != "no" && slices.Contains([]int{api.Between, api.In, api.Prefix}, p.Op) {
		l = append(l, []api.Pred{isNull(p.ID)})
	}
	if len(l) > 256 {
		return nil, true
	}
	return l, false
}

// wantSize is how many terms the product has. No list has more than 256 terms, so that a float is enough.
func wantSize(lists [][][]api.Pred) float64 {
	n := 1.0
	for _, l := range lists {
		n *= float64(len(l))
	}
	return n
}

// wantProduct is the product of lists: the last list is the one that changes with each term.
func wantProduct(lists [][][]api.Pred) [][]api.Pred {
	if len(lists) == 0 {
		return [][]api.Pred{{}}
	}
	if wantSize(lists) == 0 {
		return nil
	}
	var l [][]api.Pred
	for _, first := range lists[0] {
		for _, rest := range wantProduct(lists[1:]) {
			l = append(l, slices.Concat(first, rest))
		}
	}
	return l
}

// wantTogether is the error of Disjoint (for the mode yes) and Implies (for the mode not yes) for valid arguments.
func wantTogether(p, q api.Pred, mode string) api.Errno {
	a, manyA := wantTerms(p, "yes")
	b, manyB := wantTerms(q, mode)
	if manyA || manyB || len(a)*len(b) > 256 {
		return api.ErrDecide
	}
	return api.OK
}

// satisfied tells whether a row satisfies a term.
func satisfied(term []api.Pred, r api.Row) bool {
	for _, p := range term {
		if pred.Eval(p, r) != api.Yes {
			return false
		}
	}
	return true
}

// valuesFor are values of a field, perhaps null, among which there is one for each way in which the predicates can be
// about the field, as long as they do not name almost all bytes.
func valuesFor(id int, l ...api.Pred) []api.Value {
	found := []api.Value{null, text(""), text("#")}
	for _, n := range ends[typeOf(id)] {
		found = append(found, num(n))
	}
	for _, p := range l {
		for _, q := range nodes(p) {
			if q.ID != id {
				continue
			}
			// What overflows is a number, too.
			found = append(found, num(q.Lo), num(q.Lo-1), num(q.Hi), num(q.Hi+1))
			for _, v := range append(q.Set, text(q.Text)) {
				found = append(found, num(v.N), num(v.N-1), num(v.N+1), text(v.S), text(v.S+"#"))
			}
		}
	}
	found = slices.DeleteFunc(found, func(v api.Value) bool { return !value.Valid(v, typeOf(id)) })
	slices.SortFunc(found, value.Compare)
	return slices.Compact(found)
}

// rowsFor are rows that fit typed, among which there is one for each way in which the predicates can be about all
// fields that they name.
func rowsFor(l ...api.Pred) []api.Row {
	rows := []api.Row{{}}
	for _, id := range pred.Fields(and(l...)) {
		var more []api.Row
		for _, r := range rows {
			for _, v := range valuesFor(id, l...) {
				x := api.Row{Cells: slices.Clone(r.Cells)}
				if !v.Null {
					x.Cells = append(x.Cells, cell(id, v))
				}
				more = append(more, x)
			}
		}
		rows = more
	}
	return rows
}

// anyRows are at most n of the rows.
func anyRows(r *rand.Rand, rows []api.Row, n int) []api.Row {
	if len(rows) <= n {
		return rows
	}
	return some(r, rows, n)
}

// exists tells whether a condition holds for a row.
func exists(rows []api.Row, is func(api.Row) bool) bool { return slices.ContainsFunc(rows, is) }

// wantWitness tells whether one of the rows satisfies p, wantDisjoint whether none satisfies p and q, and wantImplies
// whether all that satisfy p satisfy q.
func wantWitness(rows []api.Row, p api.Pred) bool {
	return exists(rows, func(r api.Row) bool { return pred.Match(p, r) })
}

func wantDisjoint(rows []api.Row, p, q api.Pred) bool {
	return !exists(rows, func(r api.Row) bool { return pred.Match(p, r) && pred.Match(q, r) })
}

func wantImplies(rows []api.Row, p, q api.Pred) bool {
	return !exists(rows, func(r api.Row) bool { return pred.Match(p, r) && !pred.Match(q, r) })
}
