package pred_test

import (
	"math"
	"math/rand"
	"slices"
	"testing"

	"fenland/api"
	"fenland/pred"
)

// three is a row for which there are predicates of all three values.
func three() api.Row {
	return row(cell(1, num(5)), cell(2, text("ab")), cell(4, null))
}

// constants are predicates that are simple or made of others, of each value for three.
func constants() []api.Pred {
	return []api.Pred{
		yes, between(1, 0, 9), prefix(2, "a"), and(or(yes, unknown), in(1, num(5))),
		no, between(1, 9, 0), in(2, text("b")), or(and(no, unknown), not(isNull(4))),
		unknown, between(4, 0, 9), in(3, num(5)), not(and(yes, prefix(3, ""))),
	}
}

// same checks that predicates have the same value.
func same(t *testing.T, law string, r api.Row, l ...api.Pred) {
	t.Helper()
	for _, p := range l[1:] {
		if a, b := pred.Eval(l[0], r), pred.Eval(p, r); a != b {
			t.Errorf("%s: %+v is %d, %+v is %d", law, l[0], a, p, b)
		}
	}
}

// P8.2: the laws of one and two predicates, for all pairs of values.
func TestLawsOfTwo(t *testing.T) {
	r := three()
	found := map[[2]int]int{}
	for _, a := range constants() {
		same(t, "double negation", r, a, not(not(a)), not(not(not(not(a)))))
		same(t, "idempotence", r, a, and(a), or(a), and(a, a), or(a, a), and(a, a, a), or(a, a, a), and(or(a), and(a)))
		for _, b := range constants() {
			found[[2]int{pred.Eval(a, r), pred.Eval(b, r)}]++
			same(t, "De Morgan", r, not(and(a, b)), or(not(a), not(b)))
			same(t, "De Morgan", r, not(or(a, b)), and(not(a), not(b)))
			same(t, "commutativity", r, and(a, b), and(b, a))
			same(t, "commutativity", r, or(a, b), or(b, a))
			same(t, "absorption", r, a, and(a, or(a, b)), and(or(b, a), a), or(a, and(a, b)), or(and(b, a), a))
		}
	}
	if len(found) != 9 {
		t.Errorf("%d pairs of values instead of 9", len(found))
	}
}

// P8.2: the laws of three predicates, for all triples of values.
func TestLawsOfThree(t *testing.T) {
	r := three()
	found := map[[3]int]int{}
	for _, a := range constants() {
		for _, b := range constants() {
			for _, c := range constants() {
				found[[3]int{pred.Eval(a, r), pred.Eval(b, r), pred.Eval(c, r)}]++
				same(t, "associativity", r, and(a, b, c), and(a, and(b, c)), and(and(a, b), c))
				same(t, "associativity", r, or(a, b, c), or(a, or(b, c)), or(or(a, b), c))
				same(t, "distributivity", r, and(a, or(b, c)), or(and(a, b), and(a, c)))
				same(t, "distributivity", r, or(a, and(b, c)), and(or(a, b), or(a, c)))
				same(t, "commutativity", r, and(a, b, c), and(a, c, b), and(b, a, c), and(b, c, a), and(c, a, b), and(c, b, a))
				same(t, "commutativity", r, or(a, b, c), or(a, c, b), or(b, a, c), or(b, c, a), or(c, a, b), or(c, b, a))
				same(t, "De Morgan", r, not(and(a, b, c)), or(not(a), not(b), not(c)))
				same(t, "De Morgan", r, not(or(a, b, c)), and(not(a), not(b), not(c)))
			}
		}
	}
	if len(found) != 27 {
		t.Errorf("%d triples of values instead of 27", len(found))
	}
}

// P8.2: the laws of any predicates, and of as many Kids as there may be.
func TestLawsOfAny(t *testing.T) {
	r := rand.New(rand.NewSource(7))
	same(t, "De Morgan", api.Row{}, not(and()), or())
	same(t, "De Morgan", api.Row{}, not(or()), and())
	for range 4000 {
		x := anyRow(r)
		var l, negated []api.Pred
		for range r.Intn(17) {
			p := anyPred(r, 1+r.Intn(3))
			l, negated = append(l, p), append(negated, not(p))
		}
		mixed := slices.Clone(l)
		r.Shuffle(len(mixed), func(i, k int) { mixed[i], mixed[k] = mixed[k], mixed[i] })
		cut := r.Intn(len(l) + 1)
		a, b := anyPred(r, 3), anyPred(r, 3)
		same(t, "De Morgan", x, not(and(l...)), or(negated...))
		same(t, "De Morgan", x, not(or(l...)), and(negated...))
		same(t, "commutativity", x, and(l...), and(mixed...))
		same(t, "commutativity", x, or(l...), or(mixed...))
		same(t, "associativity", x, and(l...), and(and(l[:cut]...), and(l[cut:]...)))
		same(t, "associativity", x, or(l...), or(or(l[:cut]...), or(l[cut:]...)))
		same(t, "double negation", x, a, not(not(a)))
		same(t, "idempotence", x, a, and(a, a), or(a, a))
		same(t, "absorption", x, a, and(a, or(a, b)), or(a, and(a, b)))
		var products, sums []api.Pred
		for _, p := range l {
			products, sums = append(products, and(a, p)), append(sums, or(a, p))
		}
		same(t, "distributivity", x, and(a, or(l...)), or(products...))
		same(t, "distributivity", x, or(a, and(l...)), and(sums...))
	}
}

// changed is a row in which values of the fields for which is holds are others, and cells of such fields are missing,
// added or in another place. The other cells stay in their order.
func changed(r *rand.Rand, x api.Row, is func(id int) bool) api.Row {
	var to api.Row
	insert := func() {
		if c := cell(pick(r, []int{0, 1, 2, 3, 4, 5, 6, 7, -1}), anyValue(r)); r.Intn(2) == 0 && is(c.ID) {
			to.Cells = append(to.Cells, c)
		}
	}
	for _, c := range x.Cells {
		insert()
		if is(c.ID) {
			if r.Intn(3) == 0 {
				continue
			}
			c.V = anyValue(r)
		}
		to.Cells = append(to.Cells, c)
	}
	insert()
	return to
}

// P8.3: other fields than those of Fields do not count; those of Fields do.
func TestLocality(t *testing.T) {
	r := rand.New(rand.NewSource(8))
	local, differs := 0, 0
	for range 6000 {
		p, x := anyPred(r, 1+r.Intn(4)), anyRow(r)
		ids := pred.Fields(p)
		want := pred.Eval(p, x)
		others := func(id int) bool { return !slices.Contains(ids, id) }
		for range 5 {
			if y := changed(r, x, others); pred.Eval(p, y) != want {
				t.Errorf("%+v is %d for %+v and %d for %+v", p, want, x, pred.Eval(p, y), y)
			} else if !slices.Equal(x.Cells, y.Cells) {
				local++
			}
			if y := changed(r, x, func(id int) bool { return !others(id) }); pred.Eval(p, y) != want {
				differs++
			}
		}
		bare := api.Row{Cells: slices.DeleteFunc(slices.Clone(x.Cells), func(c api.Cell) bool { return others(c.ID) })}
		if pred.Eval(p, bare) != want || pred.Eval(p, changed(r, api.Row{}, others)) != pred.Eval(p, api.Row{}) {
			t.Errorf("%+v depends on fields that are not among %v, as in %+v", p, ids, x)
		}
	}
	if local < 3000 || differs < 1000 {
		t.Errorf("%d rows were changed in other fields, the value differs for %d", local, differs)
	}
}

// P8.3: each simple predicate depends on the field that Fields has, and on its value alone.
func TestLocalityOfSimplePredicates(t *testing.T) {
	r := three()
	for _, p := range []api.Pred{between(1, 5, 5), in(1, num(5)), prefix(1, ""), isNull(2), isNull(7), between(4, 0, 9)} {
		id := pred.Fields(p)[0]
		for _, other := range []int{0, 3, 5, 6, -1, id + 1, id - 1, id + 256} {
			for _, v := range []api.Value{null, num(5), num(6), text("ab"), {Null: true, N: 5}} {
				var y api.Row
				for _, c := range r.Cells {
					if c.ID != other {
						y.Cells = append(y.Cells, c)
					}
				}
				y.Cells = append([]api.Cell{cell(other, v)}, y.Cells...)
				if other != id && pred.Eval(p, y) != pred.Eval(p, r) {
					t.Errorf("%+v depends on the field %d", p, other)
				}
			}
		}
	}
}

// withoutIsNull is p with True and Or without Kids instead of IsNull.
func withoutIsNull(r *rand.Rand, p api.Pred) api.Pred {
	p = clone(p)
	for _, q := range nodes(&p) {
		if q.Op == api.IsNull {
			q.Op, q.ID = pick(r, []int{api.True, api.Or, api.Between, api.In}), pick(r, someIDs)
		}
	}
	return p
}

// P8.4: after values have been replaced by null, also such with N and S set, the value is the same or Unknown.
func TestMissingValues(t *testing.T) {
	r := rand.New(rand.NewSource(9))
	kept, lost := 0, 0
	for range 20000 {
		p, x := withoutIsNull(r, anyPred(r, 1+r.Intn(4))), anyRow(r)
		y := api.Row{Cells: slices.Clone(x.Cells)}
		for i := range y.Cells {
			switch r.Intn(4) {
			case 0:
				y.Cells[i].V = null
			case 1:
				y.Cells[i].V.Null = true
			}
		}
		before, after := pred.Eval(p, x), pred.Eval(p, y)
		if before != api.Unknown && after != before && after != api.Unknown {
			t.Errorf("%+v is %d for %+v and %d for %+v", p, before, x, after, y)
		}
		if before != api.Unknown && !slices.Equal(x.Cells, y.Cells) {
			if after == before {
				kept++
			} else {
				lost++
			}
		}
	}
	if kept < 1000 || lost < 1000 {
		t.Errorf("the value is the same %d times, and Unknown %d times", kept, lost)
	}
}

// P8.4: a value that is missing altogether is null, too.
func TestMissingCells(t *testing.T) {
	r := three()
	for _, p := range []api.Pred{
		between(1, 5, 5), between(1, 6, 9), in(1, num(5)), in(1), prefix(2, ""), prefix(2, "b"),
		and(between(1, 5, 5), prefix(2, "a")), not(or(between(1, 0, 4), in(2, text("b")))),
		or(between(1, 0, 4), prefix(2, "b")),
	} {
		before := pred.Eval(p, r)
		for i := range r.Cells {
			y := api.Row{Cells: slices.Delete(slices.Clone(r.Cells), i, i+1)}
			if after := pred.Eval(p, y); before == api.Unknown || after != before && after != api.Unknown {
				t.Errorf("%+v is %d for %+v and %d for %+v", p, before, r, after, y)
			}
		}
		evaluates(t, p, api.Row{}, api.Unknown)
	}
}

// P8.6: In is the Or of its elements.
func TestInIsOr(t *testing.T) {
	r := rand.New(rand.NewSource(10))
	found := map[int]int{}
	for range 10000 {
		p, x := in(pick(r, someIDs)), anyRow(r)
		for range 1 + r.Intn(20) {
			p.Set = append(p.Set, anyValue(r))
		}
		p.Set = p.Set[:1+r.Intn(len(p.Set))]
		var single []api.Pred
		for _, v := range p.Set {
			single = append(single, in(p.ID, v))
		}
		same(t, "In is Or", x, p, or(single...))
		found[pred.Eval(p, x)]++
	}
	if found[api.Yes] < 500 || found[api.No] < 500 || found[api.Unknown] < 500 {
		t.Errorf("the values occur %v times", found)
	}
}

// P8.6: Between is the And of its bounds.
func TestBetweenIsAnd(t *testing.T) {
	r := rand.New(rand.NewSource(11))
	found := map[int]int{}
	edges := append([]int64{math.MinInt64 + 1, math.MaxInt64 - 1, 4, 6}, someNumbers...)
	for _, lo := range edges {
		for _, hi := range edges {
			for _, n := range edges {
				x := row(cell(1, num(n)))
				same(t, "Between is And", x, between(1, lo, hi), and(between(1, lo, math.MaxInt64), between(1, math.MinInt64, hi)))
				found[pred.Eval(between(1, lo, hi), x)]++
			}
			for range 20 {
				x, id := anyRow(r), pick(r, someIDs)
				p := between(id, lo, hi)
				same(t, "Between is And", x, p, and(between(id, math.MinInt64, hi), between(id, lo, math.MaxInt64)))
				found[pred.Eval(p, x)]++
			}
		}
	}
	if found[api.Yes] < 500 || found[api.No] < 500 || found[api.Unknown] < 500 {
		t.Errorf("the values occur %v times", found)
	}
}

// P8.6: where a Prefix is Yes, all shorter ones are, and they are Unknown for the same rows.
func TestShorterPrefixes(t *testing.T) {
	r := rand.New(rand.NewSource(12))
	found := map[int]int{}
	check := func(x api.Row, id int, s string) {
		long := pred.Eval(prefix(id, s), x)
		found[long]++
		for end := range len(s) {
			short := pred.Eval(prefix(id, s[:end]), x)
			if long == api.Yes && short != api.Yes || (long == api.Unknown) != (short == api.Unknown) {
				t.Errorf("the prefix %q is %d and %q is %d for %+v", s[:end], short, s, long, x)
			}
		}
	}
	for _, s := range append([]string{xs(200), xs(300), "x\x00y"}, someTexts...) {
		for end := range len(s) + 1 {
			check(row(cell(1, text(s))), 1, s[:end])
			check(row(cell(1, text(s))), 1, s[:end]+"q")
		}
	}
	for range 10000 {
		check(anyRow(r), pick(r, someIDs), pick(r, someTexts))
	}
	if found[api.Yes] < 500 || found[api.No] < 500 || found[api.Unknown] < 500 {
		t.Errorf("the values occur %v times", found)
	}
}
