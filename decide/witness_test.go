package decide_test

import (
	"math/rand"
	"slices"
	"testing"

	"fenland/api"
	"fenland/decide"
	"fenland/pred"
	"fenland/schema"
)

// witness checks Witness, and returns the row.
func witness(t *testing.T, s api.Schema, p api.Pred, want bool) api.Row {
	t.Helper()
	r, ok, err := decide.Witness(s, p)
	switch {
	case err != api.OK || ok != want:
		t.Errorf("Witness of %s: %v, %v, %v", show(p), r, ok, err)
	case !ok && len(r.Cells) > 0:
		t.Errorf("Witness of %s: a row %v", show(p), r)
	case ok && (!schema.Fits(s, r) || !pred.Match(p, r)):
		t.Errorf("Witness of %s: %v does not fit or match", show(p), r)
	}
	return r
}

// shuffled is a list in another order.
func shuffled[T any](r *rand.Rand, l []T) []T {
	l = slices.Clone(l)
	r.Shuffle(len(l), func(i, k int) { l[i], l[k] = l[k], l[i] })
	return l
}

// together checks whether a row satisfies all literals of a list: with Witness, and with Disjoint for the two parts of
// the list, all of it in different orders.
func together(t *testing.T, want bool, l ...api.Pred) {
	t.Helper()
	r := rand.New(rand.NewSource(int64(len(l))))
	back := slices.Clone(l)
	slices.Reverse(back)
	for _, order := range [][]api.Pred{l, back, shuffled(r, l), shuffled(r, l)} {
		all := joined(api.And, order)
		cut := r.Intn(len(l) + 1)
		p, q := joined(api.And, order[:cut]), joined(api.And, order[cut:])
		witness(t, typed(), all, want)
		witness(t, typed(), or(and(all, no), all, and(no, yes)), want)
		disjoint(t, typed(), p, q, !want)
		disjoint(t, typed(), all, yes, !want)
		implies(t, typed(), all, no, !want)
		implies(t, typed(), all, yes, true)
	}
}

// onlyValue checks that the value of a field, perhaps null, is the only one for which all literals of a list are yes.
func onlyValue(t *testing.T, id int, v api.Value, l ...api.Pred) {
	t.Helper()
	together(t, true, l...)
	var want []api.Cell
	is, other := isNull(id), not(isNull(id))
	if !v.Null {
		want = append(want, cell(id, v))
		is, other = in(id, v), not(in(id, v))
	}
	if r := witness(t, typed(), joined(api.And, l), true); !slices.Equal(r.Cells, want) {
		t.Errorf("Witness of %s: %v instead of %v", showAll(l), r, want)
	}
	together(t, false, append(slices.Clone(l), other)...)
	together(t, true, append(slices.Clone(l), is)...)
	implies(t, typed(), joined(api.And, l), is, true)
}

// numberFields are the fields with numbers, and limits the least and the greatest number of each.
var (
	numberFields = []int{aBool, aSmall, anInt, aDay, lastInt}
	limits       = map[int][2]int64{
		aBool: {0, 1}, aSmall: {-1 << 31, 1<<31 - 1}, anInt: {least, greatest}, aDay: {-1000000, 1000000}, lastInt: {least, greatest},
	}
)

// P9.1, D2: the ends of the types' ranges.
func TestWitnessAtTheEnds(t *testing.T) {
	for _, id := range numberFields {
		lo, hi := limits[id][0], limits[id][1]
		onlyValue(t, id, num(lo), between(id, lo, lo))
		onlyValue(t, id, num(hi), between(id, hi, hi))
		onlyValue(t, id, num(lo), between(id, least, lo))
		onlyValue(t, id, num(hi), between(id, hi, greatest))
		onlyValue(t, id, num(lo), inNums(id, lo))
		onlyValue(t, id, num(hi), inNums(id, hi))
		onlyValue(t, id, num(lo), inNums(id, lo, hi), not(inNums(id, hi)))
		onlyValue(t, id, num(hi), inNums(id, lo, hi), not(inNums(id, lo)))
		onlyValue(t, id, num(lo), not(between(id, lo+1, hi)))
		onlyValue(t, id, num(hi), not(between(id, lo, hi-1)))
		onlyValue(t, id, num(lo), not(between(id, lo+1, greatest)))
		onlyValue(t, id, num(hi), not(between(id, least, hi-1)))
		onlyValue(t, id, num(hi), not(between(id, lo, hi-1)), not(isNull(id)))
		together(t, true, between(id, lo, hi))
		together(t, true, between(id, least, greatest))
		together(t, true, not(isNull(id)))
		together(t, false, not(between(id, lo, hi)))
		together(t, false, not(between(id, least, greatest)))
		together(t, false, not(between(id, least, hi-1)), not(inNums(id, hi)))
		together(t, false, not(inNums(id, lo)), not(between(id, lo+1, greatest)))
		together(t, false, not(between(id, lo, lo)), not(between(id, hi, hi)), not(between(id, lo+1, hi-1)))
	}
}

// P9.1, D2: numbers that a type does not have.
func TestWitnessBeyondTheEnds(t *testing.T) {
	for _, id := range []int{aBool, aSmall, aDay} {
		lo, hi := limits[id][0], limits[id][1]
		together(t, false, between(id, hi+1, greatest))
		together(t, false, between(id, least, lo-1))
		together(t, false, between(id, hi+1, hi+1))
		together(t, false, between(id, lo-1, lo-1))
		together(t, false, between(id, greatest, greatest))
		together(t, false, not(between(id, lo-1, hi+1)))
		together(t, true, not(between(id, hi+1, greatest)))
		together(t, true, not(between(id, least, lo-1)))
		together(t, true, not(between(id, hi+1, greatest)), not(between(id, least, lo-1)))
		onlyValue(t, id, num(hi), between(id, hi, hi+1))
		onlyValue(t, id, num(lo), between(id, lo-1, lo))
		onlyValue(t, id, num(lo), not(between(id, least, lo-1)), not(between(id, lo+1, greatest)))
	}
}

// P9.1, D2: ranges with one number and without any, and In of one number.
func TestWitnessOfNarrowRanges(t *testing.T) {
	for _, id := range numberFields {
		for _, n := range []int64{0, 1} {
			onlyValue(t, id, num(n), between(id, n, n))
			onlyValue(t, id, num(n), inNums(id, n))
			together(t, false, between(id, n, n), not(between(id, n, n)))
			together(t, false, between(id, n, n), not(inNums(id, n)))
			together(t, false, inNums(id, n), not(between(id, n, n)))
			together(t, false, inNums(id, n), not(inNums(id, n)))
			together(t, true, not(between(id, n, n)))
			together(t, true, not(inNums(id, n)))
		}
		together(t, false, between(id, 0, 0), between(id, 1, 1))
		together(t, false, inNums(id, 0), inNums(id, 1))
		for _, l := range [][2]int64{{1, 0}, {4, 3}, {greatest, least}, {0, least}, {greatest, 0}, {1, -1}} {
			together(t, false, between(id, l[0], l[1]))
			together(t, false, between(id, l[0], l[1]), isNull(id))
			together(t, false, between(id, l[0], l[1]), inNums(id, 0, 1))
			together(t, true, not(between(id, l[0], l[1])))
			together(t, true, not(between(id, l[0], l[1])), inNums(id, 0, 1))
			together(t, false, not(between(id, l[0], l[1])), isNull(id))
			onlyValue(t, id, num(1), not(between(id, l[0], l[1])), between(id, 0, 1), not(inNums(id, 0)))
		}
	}
}

// P9.1, D2: a field of two values, of which one or both are excluded.
func TestWitnessOfBool(t *testing.T) {
	zero, one, both := inNums(aBool, 0), inNums(aBool, 1), inNums(aBool, 0, 1)
	together(t, true, both)
	together(t, false, not(both))
	together(t, false, not(zero), not(one))
	together(t, false, not(isNull(aBool)), not(zero), not(one))
	together(t, false, not(between(aBool, 0, 0)), not(between(aBool, 1, 1)))
	together(t, false, not(between(aBool, 0, 0)), not(one))
	together(t, false, zero, one)
	together(t, false, both, not(zero), not(one))
	together(t, false, both, not(both))
	onlyValue(t, aBool, num(1), not(zero))
	onlyValue(t, aBool, num(0), not(one))
	onlyValue(t, aBool, num(1), not(zero), not(isNull(aBool)))
	onlyValue(t, aBool, num(1), both, not(zero))
	onlyValue(t, aBool, num(0), both, zero)
	onlyValue(t, aBool, num(0), not(between(aBool, 1, 7)), not(between(aBool, -5, -1)))
}

// P9.1, D2: several conditions on one number.
func TestWitnessOfNumbers(t *testing.T) {
	for _, id := range []int{aSmall, anInt, aDay, lastInt} {
		onlyValue(t, id, num(5), between(id, 0, 5), between(id, 3, 9), between(id, 5, 7))
		onlyValue(t, id, num(2), inNums(id, 1, 2), inNums(id, 2, 3))
		onlyValue(t, id, num(3), inNums(id, 1, 2, 3, 4), between(id, 3, 9), not(inNums(id, 4)))
		onlyValue(t, id, num(4), inNums(id, 1, 2, 3, 4), not(between(id, 1, 3)))
		onlyValue(t, id, num(1), inNums(id, 1, 2, 3, 4), not(between(id, 2, 9)))
		onlyValue(t, id, num(10), between(id, 0, 10), not(between(id, 0, 5)), not(between(id, 3, 9)))
		onlyValue(t, id, num(10), between(id, 0, 10), not(between(id, 0, 9)), not(between(id, 3, 4)))
		onlyValue(t, id, num(5), between(id, 0, 9), not(between(id, 0, 4)), not(between(id, 6, 9)))
		onlyValue(t, id, num(0), between(id, 0, 2), not(between(id, 2, 2)), not(inNums(id, 1)))
		onlyValue(t, id, num(7), between(id, -9, 9), not(between(id, 8, 20)), not(between(id, -20, 3)), not(inNums(id, 4, 5, 6)))
		together(t, false, between(id, 0, 4), between(id, 5, 9))
		together(t, false, between(id, 0, 5), between(id, 3, 9), between(id, 6, 7))
		together(t, false, inNums(id, 1, 2), inNums(id, 3, 4))
		together(t, false, inNums(id, 1, 3, 5), between(id, 2, 2))
		together(t, false, inNums(id, 1, 3, 5), not(between(id, 0, 4)), not(inNums(id, 5)))
		together(t, false, inNums(id, 1, 2), inNums(id, 2, 3), inNums(id, 1, 3))
		together(t, false, between(id, 0, 9), not(between(id, 0, 4)), not(between(id, 5, 9)))
		together(t, false, between(id, 0, 9), not(between(id, 0, 9)), not(between(id, 3, 4)))
		together(t, false, between(id, 0, 9), not(between(id, -3, 6)), not(between(id, 4, 12)))
		together(t, true, not(between(id, 0, 9)))
		together(t, true, not(between(id, -100, 100)), not(inNums(id, 101, 102)), not(inNums(id, -101)))
	}
}

// P9.1, D2: ranges of which every number is excluded one by one, and of which every number but one is.
func TestWitnessOfExhaustedRanges(t *testing.T) {
	for _, id := range []int{aSmall, anInt, aDay, lastInt} {
		lo, hi := limits[id][0], limits[id][1]
		for _, first := range []int64{0, -20, lo, hi - 63} {
			l := []api.Pred{between(id, first, first+63)}
			var sets [4][]int64
			for i := range int64(64) {
				sets[i%4] = append(sets[i%4], first+i)
			}
			for _, set := range sets {
				l = append(l, not(inNums(id, set...)))
			}
			together(t, false, l...)
			for _, missing := range []int64{first, first + 1, first + 30, first + 62, first + 63} {
				m := slices.Clone(l)
				set := slices.DeleteFunc(slices.Clone(sets[(missing-first)%4]), func(n int64) bool { return n == missing })
				m[1+(missing-first)%4] = not(inNums(id, set...))
				onlyValue(t, id, num(missing), m...)
			}
		}
		var l []api.Pred
		for n := range int64(40) {
			l = append(l, not(between(id, n, n)))
		}
		together(t, false, append(l, between(id, 0, 39))...)
		onlyValue(t, id, num(40), append(l, between(id, 0, 40))...)
		onlyValue(t, id, num(-1), append(l, between(id, -1, 39))...)
		onlyValue(t, id, num(7), append(append(slices.Clone(l[:7]), l[8:]...), between(id, 0, 39))...)
		together(t, true, l...)
	}
}

// P9.1, D2: IsNull and Not IsNull of one field, alone and with other literals.
func TestWitnessOfNull(t *testing.T) {
	for _, p := range append(simples(), nulls()...) {
		id := p.ID
		onlyValue(t, id, null, isNull(id))
		onlyValue(t, id, null, isNull(id), isNull(id))
		together(t, false, isNull(id), not(isNull(id)))
		together(t, true, not(isNull(id)))
		if r := witness(t, typed(), not(isNull(id)), true); len(r.Cells) != 1 {
			t.Errorf("Witness of Not IsNull: %v", r)
		}
		if p.Op != api.IsNull {
			together(t, false, isNull(id), p)
			together(t, false, isNull(id), not(p))
			empty := p.Op == api.Between && p.Lo > p.Hi
			together(t, !empty, p, not(isNull(id)))
			together(t, false, p, not(p))
			together(t, false, p, not(p), not(isNull(id)))
		}
	}
}

// P9.1, D2: several fields, all of which have to be right.
func TestWitnessOfSeveralFields(t *testing.T) {
	l := []api.Pred{
		inNums(aBool, 1), between(aSmall, -7, -7), not(between(anInt, least, greatest-1)), prefix(aText, xs(200)), inNums(aDay, 9),
		inTexts(otherText, ""), between(lastInt, 0, 4), not(inNums(lastInt, 0, 1, 2, 4)),
	}
	want := []api.Cell{
		cell(aBool, num(1)), cell(aSmall, num(-7)), cell(anInt, num(greatest)), cell(aText, text(xs(200))), cell(aDay, num(9)),
		cell(otherText, text("")), cell(lastInt, num(3)),
	}
	together(t, true, l...)
	r := witness(t, typed(), and(l...), true)
	if !slices.Equal(r.Cells, want) {
		t.Errorf("Witness: %v instead of %v", r, want)
	}
	for i, p := range l {
		id := pred.Fields(p)[0]
		for _, q := range []api.Pred{not(p), isNull(id)} {
			together(t, false, append(slices.Clone(l), q)...)
			together(t, false, append([]api.Pred{q}, l...)...)
		}
		m := slices.Clone(l)
		m[i] = isNull(id)
		together(t, id != lastInt, m...)
	}
	// Fields of the same type do not interfere with one another.
	together(t, true, inTexts(aText, "a"), inTexts(otherText, "b"), not(inTexts(aText, "b")), not(prefix(otherText, "a")))
	together(t, true, between(anInt, 1, 1), between(lastInt, 2, 2), between(aSmall, 3, 3), between(aDay, 4, 4))
	together(t, true, isNull(anInt), not(isNull(lastInt)), isNull(aText), not(isNull(otherText)))
}

// P9.1, D2: the terms are tried one after the other, and a row need not satisfy more than one.
func TestWitnessOfSeveralTerms(t *testing.T) {
	never := and(between(anInt, 0, 4), between(anInt, 5, 9))
	for _, l := range [][]api.Pred{{a}, {never, a}, {a, never}, {never, never, b, never}, {never, and(a, not(a)), c}, {d, a}} {
		witness(t, typed(), or(l...), true)
		witness(t, typed(), and(or(l...), or(never, e)), true)
		witness(t, typed(), and(or(l...), or(never, and(e, not(e)))), false)
	}
	witness(t, typed(), or(never, and(b, not(b)), no), false)
	witness(t, typed(), and(or(between(anInt, 0, 1), between(anInt, 8, 9)), or(between(anInt, 2, 3), between(anInt, 1, 1))), true)
	witness(t, typed(), and(or(between(anInt, 0, 1), between(anInt, 8, 9)), or(between(anInt, 2, 3), between(anInt, 4, 7))), false)
	last := joined(api.Or, append(repeated(255, never), a)[128:])
	witness(t, typed(), last, true)
	witness(t, typed(), joined(api.Or, repeated(128, never)), false)
	witness(t, typed(), and(or(a, isNull(anInt)), isNull(anInt)), true)
	witness(t, typed(), not(and(a, b)), true)
	witness(t, typed(), not(or(a, not(a), b)), false)
	witness(t, typed(), not(or(a, b, c, d, e)), true)
}

// P9.1, D2: schemas without fields, and with groups only.
func TestWitnessWithoutFields(t *testing.T) {
	for _, s := range []api.Schema{bare(), only(), nested(8), {Next: 1 << 30}} {
		for _, p := range []api.Pred{yes, and(), not(no), or(no, yes), and(yes, not(no))} {
			if r := witness(t, s, p, true); len(r.Cells) > 0 {
				t.Errorf("Witness: %v for %+v", r, s)
			}
			disjoint(t, s, p, yes, false)
			implies(t, s, p, no, false)
			implies(t, s, p, p, true)
		}
		for _, p := range []api.Pred{no, not(yes), not(and()), and(yes, no)} {
			witness(t, s, p, false)
			disjoint(t, s, p, yes, true)
			disjoint(t, s, p, p, true)
			implies(t, s, p, no, true)
			implies(t, s, yes, p, false)
		}
	}
	for _, id := range []int{aText, lastInt, otherText} {
		if r := witness(t, only(id), not(isNull(id)), true); len(r.Cells) != 1 || r.Cells[0].ID != id {
			t.Errorf("Witness: %v", r)
		}
	}
}
