package decide_test

import (
	"math/rand"
	"slices"
	"testing"

	"fenland/api"
	"fenland/decide"
	"fenland/pred"
)

// term is a list of literals.
func term(literals ...api.Pred) []api.Pred { return literals }

// normal checks that p has these terms.
func normal(t *testing.T, p api.Pred, want ...[]api.Pred) {
	t.Helper()
	got, err := decide.Normal(typed(), p)
	if err != api.OK || !equalTerms(got, want) {
		t.Errorf("Normal of %s: %s, %v instead of %s", show(p), showTerms(got), err, showTerms(want))
	}
}

// simples are simple predicates of each operator and for each type, IsNull left out.
func simples() []api.Pred {
	l := []api.Pred{
		prefix(aText, ""), prefix(otherText, "ab"), prefix(aText, xs(200)), inTexts(aText, ""), inTexts(otherText, "a", "b"),
		between(anInt, 4, 3), between(lastInt, least, greatest), in(anInt, num(least), num(0), num(greatest)),
		inNums(lastInt, 0, 1, 2, 3, 4, 5, 6, 7, 8, 9, 10, 11, 12, 13, 14, 15),
	}
	for _, id := range []int{aBool, aSmall, anInt, aDay} {
		l = append(l, between(id, 0, 1), between(id, 0, 0), inNums(id, 0), inNums(id, 0, 1))
	}
	return l
}

// nulls are IsNull for each type.
func nulls() []api.Pred {
	var l []api.Pred
	for _, id := range []int{aBool, aSmall, anInt, aText, aDay, otherText, lastInt} {
		l = append(l, isNull(id))
	}
	return l
}

// The predicates of which the others of the following tests are made.
var (
	a = between(anInt, 0, 4)
	b = inTexts(aText, "a", "ab")
	c = prefix(otherText, "b")
	d = isNull(aDay)
	e = inNums(aBool, 1)
)

// P9.1, D1: the lines of the table for True and simple predicates, in the modes yes and no.
func TestNormalOfSimple(t *testing.T) {
	normal(t, yes, term())
	normal(t, not(yes))
	normal(t, not(not(yes)), term())
	normal(t, not(not(not(yes))))
	for _, p := range append(simples(), nulls()...) {
		normal(t, p, term(p))
		normal(t, not(p), term(not(p)))
		normal(t, not(not(p)), term(p))
		normal(t, not(not(not(p))), term(not(p)))
		normal(t, and(p), term(p))
		normal(t, or(p), term(p))
		normal(t, not(and(p)), term(not(p)))
		normal(t, not(or(p)), term(not(p)))
		normal(t, and(not(p)), term(not(p)))
		normal(t, not(or(not(p))), term(p))
	}
}

// P9.1, D1: the lines of the table for And, Or and Not, in the modes yes and no.
func TestNormalOfAndOr(t *testing.T) {
	normal(t, and(), term())
	normal(t, or())
	normal(t, not(and()))
	normal(t, not(or()), term())
	normal(t, and(a, b), term(a, b))
	normal(t, or(a, b), term(a), term(b))
	normal(t, not(and(a, b)), term(not(a)), term(not(b)))
	normal(t, not(or(a, b)), term(not(a), not(b)))
	normal(t, and(d, c, b, a), term(d, c, b, a))
	normal(t, or(d, c, b, a), term(d), term(c), term(b), term(a))
	normal(t, not(and(d, not(c), b)), term(not(d)), term(c), term(not(b)))
	normal(t, not(or(d, not(c), b)), term(not(d), c, not(b)))
	normal(t, and(a, not(or(b, not(c)))), term(a, not(b), c))
	normal(t, or(a, not(and(b, not(c)))), term(a), term(not(b)), term(c))
	normal(t, and(and(a, b), and(), and(c)), term(a, b, c))
	normal(t, or(or(a, b), or(), or(c)), term(a), term(b), term(c))
	normal(t, or(and(a, b), c, and(d, e)), term(a, b), term(c), term(d, e))
	normal(t, not(or(and(a, b), c)), term(not(a), not(c)), term(not(b), not(c)))
	normal(t, not(and(or(a, b), c)), term(not(a), not(b)), term(not(c)))
	normal(t, not(not(and(a, or(b, c)))), term(a, b), term(a, c))
}

// P9.1, D1: True, Not True, and And and Or without Kids among others.
func TestNormalOfConstants(t *testing.T) {
	for _, p := range []api.Pred{yes, and(), not(no), not(not(yes)), and(yes, yes), not(or(no, no))} {
		normal(t, p, term())
		normal(t, not(p))
		normal(t, and(p, a), term(a))
		normal(t, and(a, p, b), term(a, b))
		normal(t, or(p, a), term(), term(a))
		normal(t, or(a, p), term(a), term())
		normal(t, not(and(p, a)), term(not(a)))
		normal(t, not(or(p, a)))
	}
	for _, p := range []api.Pred{no, not(yes), not(and()), not(not(or())), and(a, no), and(no, a, b), or(no, no)} {
		normal(t, p)
		normal(t, and(p, a))
		normal(t, and(a, b, p))
		normal(t, or(p, a), term(a))
		normal(t, or(a, p, b), term(a), term(b))
	}
	normal(t, not(and(no, a)), term(), term(not(a)))
	normal(t, not(or(no, a)), term(not(a)))
	normal(t, or(yes, yes), term(), term())
}

// P9.1, D1: the terms of a product are ordered by the first list, then by the second one, and so on.
func TestNormalOrder(t *testing.T) {
	normal(t, and(or(a, b), or(c, d)), term(a, c), term(a, d), term(b, c), term(b, d))
	normal(t, and(or(d, c), or(b, a)), term(d, b), term(d, a), term(c, b), term(c, a))
	normal(t, not(or(and(a, b), and(c, d))), term(not(a), not(c)), term(not(a), not(d)), term(not(b), not(c)), term(not(b), not(d)))
	normal(t, and(or(a, b), c, or(d, e)), term(a, c, d), term(a, c, e), term(b, c, d), term(b, c, e))
	normal(t, and(or(a, and(b, c)), or(d, e)), term(a, d), term(a, e), term(b, c, d), term(b, c, e))
	var want [][]api.Pred
	first, second, third := counted(2, anInt), counted(4, lastInt), []api.Pred{a, not(b), c}
	for _, x := range first {
		for _, y := range second {
			for _, z := range third {
				want = append(want, term(x, y, z))
			}
		}
	}
	normal(t, and(or(first...), or(second...), or(third...)), want...)
	normal(t, and(and(or(first...), or(second...)), or(third...)), want...)
	normal(t, and(or(first...), and(or(second...), or(third...))), want...)
}

// P9.1, D1: nothing is left out, neither terms and literals that come twice nor those that contradict each other.
func TestNormalKeepsAll(t *testing.T) {
	normal(t, or(a, a), term(a), term(a))
	normal(t, and(a, a), term(a, a))
	normal(t, not(and(a, a, a)), term(not(a)), term(not(a)), term(not(a)))
	normal(t, not(or(a, a)), term(not(a), not(a)))
	normal(t, and(or(a, a), or(a, b)), term(a, a), term(a, b), term(a, a), term(a, b))
	normal(t, and(a, not(a)), term(a, not(a)))
	normal(t, or(a, not(a)), term(a), term(not(a)))
	normal(t, and(isNull(anInt), a), term(isNull(anInt), a))
	empty := between(anInt, 1, 0)
	normal(t, or(empty, and(empty, not(empty))), term(empty), term(empty, not(empty)))
}

// P9.1, D1: the terms of any predicates.
func TestNormalOfAny(t *testing.T) {
	r := rand.New(rand.NewSource(1))
	errors, most := 0, 0
	for range 10000 {
		p := anyPred(r, 1+r.Intn(8), anyIDs(r, 4)...)
		want, many := wantTerms(p, "yes")
		if many {
			errors++
			fails(t, typed(), p, api.ErrDecide)
			continue
		}
		most = max(most, len(want))
		normal(t, p, want...)
	}
	if errors < 10 || most < 150 {
		t.Errorf("%d times too many terms, and otherwise at most %d", errors, most)
	}
}

// isLiteral tells whether p is a simple predicate or a Not of one.
func isLiteral(p api.Pred) bool {
	if p.Op == api.Not && len(p.Kids) == 1 {
		p = p.Kids[0]
	}
	return p.Op >= api.Between && p.Op <= api.IsNull
}

// P9.2: a predicate is yes for the rows that satisfy a term.
func TestNormalForm(t *testing.T) {
	r := rand.New(rand.NewSource(2))
	found := map[bool]int{}
	for range 3000 {
		p := anyPred(r, 1+r.Intn(6), anyIDs(r, 2)...)
		l, err := decide.Normal(typed(), p)
		if err != api.OK {
			continue
		}
		for _, literals := range l {
			if slices.ContainsFunc(literals, func(p api.Pred) bool { return !isLiteral(p) || !pred.Valid(typed(), p) }) {
				t.Errorf("%s are not only literals", showAll(literals))
			}
		}
		for _, x := range anyRows(r, rowsFor(p), 60) {
			is := slices.ContainsFunc(l, func(literals []api.Pred) bool { return satisfied(literals, x) })
			found[is]++
			if is != pred.Match(p, x) {
				t.Fatalf("%s is %d for %v, but %s is %v", show(p), pred.Eval(p, x), x, showTerms(l), is)
			}
		}
	}
	if found[true] < 10000 || found[false] < 10000 {
		t.Errorf("a term is satisfied by %v rows", found)
	}
}
