package decide_test

import (
	"testing"

	"fenland/api"
	"fenland/decide"
)

// disjoint checks Disjoint, in both directions.
func disjoint(t *testing.T, s api.Schema, p, q api.Pred, want bool) {
	t.Helper()
	for _, l := range [][2]api.Pred{{p, q}, {q, p}} {
		if got, err := decide.Disjoint(s, l[0], l[1]); got != want || err != api.OK {
			t.Errorf("Disjoint of %s and %s: %v, %v", show(l[0]), show(l[1]), got, err)
		}
	}
}

// implies checks Implies.
func implies(t *testing.T, s api.Schema, p, q api.Pred, want bool) {
	t.Helper()
	if got, err := decide.Implies(s, p, q); got != want || err != api.OK {
		t.Errorf("Implies of %s and %s: %v, %v", show(p), show(q), got, err)
	}
}

// P9.1: the chapter's examples, on each field with more than two numbers.
func TestExamples(t *testing.T) {
	for _, n := range []int{anInt, lastInt, aSmall, aDay} {
		disjoint(t, typed(), between(n, 0, 4), between(n, 5, 9), true)
		implies(t, typed(), between(n, 2, 3), between(n, 0, 4), true)
		implies(t, typed(), yes, or(between(n, 0, 4), not(between(n, 0, 4))), false)
		implies(t, typed(), yes, or(between(n, 0, 4), not(between(n, 0, 4)), isNull(n)), true)
	}
}

// pair is what is to be decided about two predicates: whether they exclude each other, and whether each implies the
// other one.
type pair struct {
	p, q                     api.Pred
	disjoint, implies, turns bool
}

func (x pair) check(t *testing.T) {
	t.Helper()
	disjoint(t, typed(), x.p, x.q, x.disjoint)
	implies(t, typed(), x.p, x.q, x.implies)
	implies(t, typed(), x.q, x.p, x.turns)
	implies(t, typed(), not(not(x.p)), and(x.q), x.implies)
	implies(t, typed(), and(yes, x.q), or(no, x.p), x.turns)
}

// P9.1, D3 and D4: ranges and sets of numbers.
func TestPairsOfNumbers(t *testing.T) {
	for _, n := range []int{aSmall, anInt, aDay, lastInt} {
		for _, x := range []pair{
			{between(n, 0, 4), between(n, 0, 4), false, true, true}, {between(n, 1, 4), between(n, 0, 4), false, true, false},
			{between(n, 0, 3), between(n, 0, 4), false, true, false}, {between(n, 0, 4), between(n, 4, 9), false, false, false},
			{between(n, 0, 4), between(n, 5, 9), true, false, false}, {between(n, 3, 3), between(n, 0, 4), false, true, false},
			{between(n, 3, 3), inNums(n, 3), false, true, true}, {inNums(n, 3), inNums(n, 2, 3), false, true, false},
			{inNums(n, 2, 3), between(n, 2, 3), false, true, true}, {inNums(n, 1, 3), between(n, 1, 3), false, true, false},
			{inNums(n, 1, 3), between(n, 2, 2), true, false, false}, {inNums(n, 1, 2), inNums(n, 3, 4), true, false, false},
			{inNums(n, 1, 2), inNums(n, 2, 3), false, false, false}, {between(n, 0, 4), not(between(n, 0, 4)), true, false, false},
			{between(n, 0, 4), not(between(n, 5, 9)), false, true, false}, {inNums(n, 1), not(inNums(n, 2)), false, true, false},
			{not(between(n, 0, 9)), not(between(n, 3, 4)), false, true, false}, {not(inNums(n, 3)), not(between(n, 3, 3)), false, true, true},
			{and(between(n, 0, 9), not(between(n, 3, 9))), between(n, 0, 2), false, true, true},
			{and(between(n, 0, 9), not(inNums(n, 9))), between(n, 0, 8), false, true, true},
			{or(between(n, 0, 4), between(n, 5, 9)), between(n, 0, 9), false, true, true},
			{or(between(n, 0, 4), between(n, 6, 9)), between(n, 0, 9), false, true, false},
			{or(between(n, 0, 4), between(n, 6, 9)), between(n, 5, 5), true, false, false},
			{not(or(between(n, 0, 4), between(n, 6, 9))), between(n, 5, 5), false, false, true},
			{between(n, 4, 3), between(n, 0, 9), true, true, false}, {between(n, 4, 3), between(n, 9, 8), true, true, true},
			{between(n, greatest, least), isNull(n), true, true, false}, {not(between(n, 4, 3)), not(isNull(n)), false, true, true},
			{not(between(n, 4, 3)), yes, false, true, false}, {between(n, 4, 3), no, true, true, true},
		} {
			x.check(t)
		}
	}
}

// P9.1, D3 and D4: the ends of the types' ranges.
func TestPairsAtTheEnds(t *testing.T) {
	for _, n := range numberFields {
		lo, hi := limits[n][0], limits[n][1]
		for _, x := range []pair{
			{not(isNull(n)), between(n, lo, hi), false, true, true}, {not(isNull(n)), between(n, least, greatest), false, true, true},
			{not(isNull(n)), between(n, lo+1, hi), false, false, true}, {not(isNull(n)), between(n, lo, hi-1), false, false, true},
			{yes, between(n, lo, hi), false, false, true}, {yes, or(between(n, lo, hi), isNull(n)), false, true, true},
			{isNull(n), between(n, lo, hi), true, false, false}, {not(between(n, lo, hi)), no, true, true, true},
			{between(n, lo, lo), between(n, hi, hi), true, false, false}, {between(n, hi, hi), inNums(n, lo, hi), false, true, false},
			{between(n, lo, lo), between(n, least, lo), false, true, true}, {between(n, hi, hi), between(n, hi, greatest), false, true, true},
			{not(between(n, lo, hi-1)), inNums(n, hi), false, true, true}, {not(between(n, lo+1, hi)), inNums(n, lo), false, true, true},
			{not(inNums(n, lo)), between(n, lo+1, hi), false, true, true}, {not(inNums(n, hi)), between(n, lo, hi-1), false, true, true},
		} {
			x.check(t)
		}
	}
	for _, x := range []pair{
		{not(isNull(aBool)), inNums(aBool, 0, 1), false, true, true}, {inNums(aBool, 0), inNums(aBool, 1), true, false, false},
		{not(inNums(aBool, 0)), inNums(aBool, 1), false, true, true}, {yes, inNums(aBool, 0, 1), false, false, true},
		{not(inNums(aBool, 0)), between(aBool, 0, 0), true, false, false}, {not(inNums(aBool, 0, 1)), no, true, true, true},
		{or(inNums(aBool, 0), inNums(aBool, 1)), not(isNull(aBool)), false, true, true},
		{or(inNums(aBool, 0), inNums(aBool, 1), isNull(aBool)), yes, false, true, true},
		{between(aSmall, 1<<31, greatest), no, true, true, true}, {between(anInt, 1<<31, greatest), no, true, false, true},
		{between(aDay, 1000001, greatest), no, true, true, true}, {between(aBool, 2, 9), isNull(aBool), true, true, false},
	} {
		x.check(t)
	}
}

// P9.1, D3 and D4: 'not yes' also holds because a field is null.
func TestPairsOfNulls(t *testing.T) {
	for _, p := range []api.Pred{
		inNums(aBool, 0), between(aBool, 1, 1), between(aSmall, 0, 4), inNums(aSmall, 1, 2), between(anInt, 0, 4), inNums(anInt, least),
		between(aDay, -9, 9), inNums(aDay, 1, 2, 3), prefix(aText, "a"), prefix(aText, xs(200)), inTexts(aText, "", "a"),
		prefix(otherText, "\xff"), inTexts(otherText, xs(200)), between(lastInt, least, greatest-1),
	} {
		null := isNull(p.ID)
		for _, x := range []pair{
			{p, p, false, true, true}, {p, not(p), true, false, false}, {not(p), not(p), false, true, true},
			{yes, or(p, not(p)), false, false, true}, {yes, or(p, not(p), null), false, true, true}, {yes, p, false, false, true},
			{not(null), or(p, not(p)), false, true, true}, {not(null), p, false, false, true}, {not(null), not(p), false, false, true},
			{null, p, true, false, false}, {null, not(p), true, false, false}, {null, or(p, not(p)), true, false, false},
			{null, null, false, true, true}, {null, not(null), true, false, false}, {null, or(p, null), false, true, false},
			{null, or(not(p), null), false, true, false}, {and(p, null), no, true, true, true}, {and(p, not(p)), no, true, true, true},
			{yes, not(and(p, not(p))), false, false, true}, {yes, or(null, not(null)), false, true, true},
			{not(or(p, null)), not(p), false, true, true}, {not(and(p, null)), p, false, false, true},
			{not(and(p, null)), not(null), false, true, true}, {or(p, not(p)), not(and(p, not(p))), false, true, true},
		} {
			x.check(t)
		}
	}
}

// P9.1, D3 and D4: texts.
func TestPairsOfTexts(t *testing.T) {
	const s = aText
	long, short := xs(200), xs(199)
	for _, x := range []pair{
		{prefix(s, "abc"), prefix(s, "ab"), false, true, false}, {prefix(s, "ab"), prefix(s, ""), false, true, false},
		{prefix(s, ""), not(isNull(s)), false, true, true}, {prefix(s, "a"), prefix(s, "b"), true, false, false},
		{prefix(s, "ab"), prefix(s, "ac"), true, false, false}, {not(prefix(s, "a")), not(prefix(s, "ab")), false, true, false},
		{not(prefix(s, "ab")), prefix(s, "a"), false, false, false}, {not(prefix(s, "a")), prefix(s, "ab"), true, false, false},
		{not(prefix(s, "")), no, true, true, true}, {yes, prefix(s, ""), false, false, true},
		{yes, or(prefix(s, ""), isNull(s)), false, true, true}, {inTexts(s, "abc", "abd"), prefix(s, "ab"), false, true, false},
		{prefix(s, "ab"), inTexts(s, "abc"), false, false, true}, {inTexts(s, "abc"), prefix(s, "abc"), false, true, false},
		{inTexts(s, "ab", "b"), prefix(s, "a"), false, false, false}, {inTexts(s, "b", "c"), prefix(s, "a"), true, false, false},
		{inTexts(s, "a"), inTexts(s, "a", "b"), false, true, false}, {inTexts(s, "a"), inTexts(s, "b"), true, false, false},
		{inTexts(s, ""), prefix(s, ""), false, true, false}, {inTexts(s, ""), prefix(s, "\x00"), true, false, false},
		{not(inTexts(s, "a", "b")), not(inTexts(s, "a")), false, true, false}, {inTexts(s, "a"), not(prefix(s, "ab")), false, true, false},
		{prefix(s, "a"), or(inTexts(s, "a"), prefix(s, "a")), false, true, true},
		{and(prefix(s, "a"), not(prefix(s, "ab"))), prefix(s, "ab"), true, false, false},
		{and(inTexts(s, "a", "ab"), not(prefix(s, "ab"))), inTexts(s, "a"), false, true, true},
		{prefix(s, long), inTexts(s, long), false, true, true}, {prefix(s, long), prefix(s, short), false, true, false},
		{prefix(s, short), or(inTexts(s, short), prefix(s, short+"a")), false, false, true},
		{joined(api.And, append(notTexts(short, bytesBut(97)), prefix(s, short))), inTexts(s, short, short+"a"), false, true, true},
		{joined(api.And, append(notTexts(short, bytesBut(0)), prefix(s, short))), inTexts(s, short), false, false, true},
	} {
		x.check(t)
	}
	// In the mode not yes, the second predicate would have too many terms.
	few := joined(api.And, append(notPrefixes(short, bytesBut(97)), prefix(s, short)))
	implies(t, typed(), few, inTexts(s, short, short+"a"), true)
	implies(t, typed(), few, inTexts(s, short, short+"b"), false)
	few = joined(api.And, notPrefixes("", bytesBut(255)))
	implies(t, typed(), few, or(inTexts(s, ""), prefix(s, "\xff")), true)
	implies(t, typed(), few, prefix(s, "\xff"), false)
}

// P9.1, D3 and D4: several fields at once.
func TestPairsOfSeveralFields(t *testing.T) {
	other := between(lastInt, 0, 4)
	for _, x := range []pair{
		{a, other, false, false, false}, {a, b, false, false, false}, {and(a, b), a, false, true, false}, {and(a, b), or(c, b), false, true, false},
		{and(a, b), and(b, a), false, true, true}, {or(a, b), or(b, a), false, true, true}, {a, or(b, a), false, true, false},
		{and(a, b), not(a), true, false, false}, {or(a, b), not(a), false, false, false}, {or(a, b), and(not(a), not(b)), true, false, false},
		{not(and(a, b)), or(not(a), not(b)), false, true, true}, {not(or(a, b)), and(not(a), not(b)), false, true, true},
		{and(a, or(b, c)), or(and(a, b), and(a, c)), false, true, true}, {and(a, other), between(lastInt, 0, 9), false, true, false},
		{and(a, not(b)), and(b, a), true, false, false}, {and(isNull(anInt), other), not(a), true, false, false},
		{and(a, b, c, d, e), and(e, d, not(c), b, a), true, false, false}, {and(a, b, c, d, e), or(e, no), false, true, false},
		{or(and(a, e), and(b, not(e))), or(a, b), false, true, false}, {inTexts(aText, "b"), inTexts(otherText, "c"), false, false, false},
		{inTexts(aText, "b"), prefix(otherText, "b"), false, false, false}, {and(d, a), or(not(d), between(anInt, 5, 5)), true, false, false},
		{and(yes, no), a, true, true, false}, {or(yes, a), yes, false, true, true}, {no, no, true, true, true}, {yes, yes, false, true, true},
		{yes, no, true, false, true}, {yes, a, false, false, true}, {no, a, true, true, false}, {and(), or(), true, false, true},
	} {
		x.check(t)
	}
}
