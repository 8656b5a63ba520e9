package decide

import (
	"slices"

	"fenland/api"
)

// What a predicate can be for a row.
const (
	yes = iota
	no
	notYes
	notNo
)

// terms are the terms of a predicate in a mode. A row satisfies one of them if and only if the predicate is in the mode
// for the row.
type terms struct {
	l       []term
	tooMany bool // l is empty
}

// term adds the literals of a term to a list. A term is not a list itself, since many terms can have many literals in
// common.
type term func([]api.Pred) []api.Pred

// mode is a column of the chapter's table: of what the terms of a predicate are made, by its operator.
type mode struct {
	always  func() terms
	isNull  func(api.Pred) terms
	simple  func(api.Pred) terms
	and, or func([]terms) terms  // of those of the Kids
	not     func(api.Pred) terms // of the Kid
}

func modes() [4]mode {
	var m [4]mode
	in := func(other int) func(api.Pred) terms {
		return func(kid api.Pred) terms { return m[other].terms(kid) }
	}
	m = [4]mode{
		yes:    {everyRow, itself, itself, product, sum, in(no)},
		no:     {noRow, negation, negation, sum, product, in(yes)},
		notYes: {noRow, negation, negationOrNull, sum, product, in(notNo)},
		notNo:  {everyRow, itself, itselfOrNull, product, sum, in(notYes)},
	}
	return m
}

// terms returns the terms of a valid predicate.
func (m mode) terms(p api.Pred) terms {
	switch p.Op {
	case api.True:
		return m.always()
	case api.IsNull:
		return m.isNull(p)
	case api.And:
		return m.and(m.each(p.Kids))
	case api.Or:
		return m.or(m.each(p.Kids))
	case api.Not:
		return m.not(p.Kids[0])
	}
	return m.simple(p)
}

func (m mode) each(kids []api.Pred) []terms {
	var l []terms
	for _, k := range kids {
		l = append(l, m.terms(k))
	}
	return l
}

// everyRow is the empty term.
func everyRow() terms { return single(func(to []api.Pred) []api.Pred { return to }) }

func noRow() terms { return terms{} }

func itself(p api.Pred) terms {
	return single(func(to []api.Pred) []api.Pred { return append(to, p) })
}

func negation(p api.Pred) terms { return itself(api.Pred{Op: api.Not, Kids: []api.Pred{p}}) }

func itselfOrNull(p api.Pred) terms { return sum([]terms{itself(p), missing(p)}) }

func negationOrNull(p api.Pred) terms { return sum([]terms{negation(p), missing(p)}) }

// missing is the term of the rows for which a simple predicate is unknown.
func missing(p api.Pred) terms { return itself(api.Pred{Op: api.IsNull, ID: p.ID}) }

func single(t term) terms { return terms{l: []term{t}} }

func sum(parts []terms) terms {
	var l []term
	for _, t := range parts {
		l = append(l, t.l...)
	}
	if len(l) > api.MaxTerms || slices.ContainsFunc(parts, areTooMany) {
		return terms{tooMany: true}
	}
	return terms{l: l}
}

func product(parts []terms) terms {
	// All parts are counted before any terms are made, since there are none at all, however many the others have, if one
	// part has none.
	n := 1
	for _, t := range parts {
		n = min(n*len(t.l), api.MaxTerms+1)
	}
	switch {
	case n > api.MaxTerms || slices.ContainsFunc(parts, areTooMany):
		return terms{tooMany: true}
	case n == 0:
		return noRow()
	}
	l := everyRow().l
	for _, t := range parts {
		l = pairs(l, t.l)
	}
	return terms{l: l}
}

// pairs returns the concatenations of a term of a and one of b.
func pairs(a, b []term) []term {
	var l []term
	for _, first := range a {
		for _, second := range b {
			l = append(l, func(to []api.Pred) []api.Pred { return second(first(to)) })
		}
	}
	return l
}

func areTooMany(t terms) bool { return t.tooMany }
