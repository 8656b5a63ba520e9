package decide_test

import (
	"slices"
	"testing"

	"fenland/api"
	"fenland/decide"
	"fenland/pred"
)

// fails checks that Normal and Witness return an error, and that Disjoint and Implies do for all pairs with p first.
func fails(t *testing.T, s api.Schema, p api.Pred, want api.Errno) {
	t.Helper()
	if l, err := decide.Normal(s, p); err != want || len(l) > 0 {
		t.Errorf("Normal of %s: %s, %v instead of %v", show(p), showTerms(l), err, want)
	}
	if r, ok, err := decide.Witness(s, p); err != want || ok || len(r.Cells) > 0 {
		t.Errorf("Witness of %s: %v, %v, %v instead of %v", show(p), r, ok, err, want)
	}
	for _, q := range []api.Pred{yes, no, not(yes), not(no)} {
		pairFails(t, s, p, q, want)
	}
}

// pairFails checks that Disjoint and Implies return an error.
func pairFails(t *testing.T, s api.Schema, p, q api.Pred, want api.Errno) {
	t.Helper()
	disjointFails(t, s, p, q, want)
	disjointFails(t, s, q, p, want)
	impliesFails(t, s, p, q, want)
}

func disjointFails(t *testing.T, s api.Schema, p, q api.Pred, want api.Errno) {
	t.Helper()
	if is, err := decide.Disjoint(s, p, q); is || err != want {
		t.Errorf("Disjoint of %s and %s: %v, %v instead of %v", show(p), show(q), is, err, want)
	}
}

func impliesFails(t *testing.T, s api.Schema, p, q api.Pred, want api.Errno) {
	t.Helper()
	if is, err := decide.Implies(s, p, q); is || err != want {
		t.Errorf("Implies of %s and %s: %v, %v instead of %v", show(p), show(q), is, err, want)
	}
}

// has checks that p has n terms, which are not too many.
func has(t *testing.T, p api.Pred, n int) {
	t.Helper()
	if l, err := decide.Normal(typed(), p); err != api.OK || len(l) != n {
		t.Errorf("Normal of %s: %s, %v instead of %d", show(p), showTerms(l), err, n)
	}
	if r, ok, err := decide.Witness(typed(), p); err != api.OK || !ok && len(r.Cells) > 0 || ok && n == 0 {
		t.Errorf("Witness of %s: %v, %v, %v", show(p), r, ok, err)
	}
	for _, q := range []api.Pred{yes, no, not(no), a} {
		if _, err := decide.Disjoint(typed(), p, q); err != api.OK {
			t.Errorf("Disjoint of %s and %s: %v", show(p), show(q), err)
		}
		if _, err := decide.Disjoint(typed(), q, p); err != api.OK {
			t.Errorf("Disjoint of %s and %s: %v", show(q), show(p), err)
		}
	}
	for _, q := range []api.Pred{yes, no, not(no), d} {
		if _, err := decide.Implies(typed(), p, q); err != api.OK {
			t.Errorf("Implies of %s and %s: %v", show(p), show(q), err)
		}
	}
}

// ors is an Or of n simple predicates, and ands an And of them. In the mode yes, ors has n terms and ands one; in the
// mode no, ands has n terms and ors one.
func ors(n int) api.Pred { return joined(api.Or, counted(n, anInt)) }

func ands(n int) api.Pred { return joined(api.And, counted(n, anInt)) }

// P9.1, D1: 256 and more terms of the whole predicate, in the modes yes and no.
func TestTooManyTerms(t *testing.T) {
	pairs, negated := repeated(16, or(a, b)), repeated(16, and(a, not(b)))
	for _, p := range []api.Pred{
		ors(256), and(ors(256), yes), and(yes, ors(256), a), or(ors(256), no), or(no, ors(255), yes), or(ors(128), ors(128)),
		and(pairs[:8]...), and(ors(16), ors(16)), and(ors(2), ors(128)), and(ors(4), ors(1), ors(8), ors(8)), and(ors(256)),
		not(ands(256)), not(or(ands(256), no)), not(and(no, ands(255))), not(and(ands(255), a)), not(or(negated[:8]...)),
		not(or(ands(16), ands(16))), not(not(ors(256))), joined(api.Or, repeated(256, a)), joined(api.Or, repeated(256, yes)),
		or(and(pairs[:7]...), not(ands(127)), yes),
	} {
		has(t, p, 256)
	}
	for _, p := range []api.Pred{
		ors(257), ors(258), ors(512), ors(4096), or(ors(256), yes), or(and(), ors(256)), or(ors(256), a), or(ors(128), ors(129)),
		and(pairs[:9]...), and(pairs...), and(ors(16), ors(17)), and(ors(16), ors(16), ors(2)), and(ors(2), ors(129)),
		and(ors(256), ors(2)), and(ors(256), ors(256)), and(ors(257)), and(ors(257), yes), or(and(pairs[:8]...), c),
		not(ands(257)), not(and(ands(256), b)), not(and(no, ands(256))), not(or(negated[:9]...)), not(or(negated...)),
		not(or(ands(16), ands(17))), not(not(ors(257))), not(not(or(ors(256), yes))), joined(api.Or, repeated(257, a)),
		joined(api.Or, repeated(257, yes)), or(and(pairs[:8]...), and(pairs[:8]...)), or(ors(257), ors(256), a), or(a, ors(256), ors(257)),
		or(ors(257), ors(257), ors(257)), or(ors(4096), no), or(ors(257), no, a), not(and(ands(257), ands(256), ands(256))),
	} {
		fails(t, typed(), p, api.ErrDecide)
	}
}

// P9.1, D1: too many terms of a part, in the mode in which the table uses it, count also where the whole has few terms
// or none.
func TestTooManyTermsOfParts(t *testing.T) {
	for _, p := range []api.Pred{
		and(ors(257), no), and(no, ors(257)), and(a, no, ors(257), b), and(no, and(ors(257))), and(no, or(ors(257), yes)),
		and(no, and(ors(16), ors(17))), and(and(ors(2), ors(129)), no), or(and(no, ors(257)), a), or(a, and(ors(257), no)),
		and(and(ors(257), no), no), and(no, not(ands(257))), and(not(not(ors(257))), no), and(b, or(and(no, and(c, ors(257))), no)),
		and(and(ors(257), no), yes), and(no, ors(4096)), and(no, and(repeated(16, ors(256))...)),
		not(or(ands(257), yes)), not(or(yes, ands(257))), not(or(yes, or(ands(257), a))), not(or(or(ands(16), ands(17)), yes)),
		not(or(yes, not(ors(257)))), not(and(a, or(yes, ands(257)))), not(not(and(no, ors(257)))), and(a, not(or(b, ands(257), yes))),
	} {
		fails(t, typed(), p, api.ErrDecide)
		for _, q := range []api.Pred{or(a, p), or(p, b), and(p, no), and(yes, p), not(not(p))} {
			if pred.Valid(typed(), q) {
				fails(t, typed(), q, api.ErrDecide)
			}
		}
	}
}

// P9.1, D1: too many terms of a part in another mode do not count.
func TestTooManyTermsInAnotherMode(t *testing.T) {
	for _, p := range []api.Pred{
		ands(257), not(ors(257)), not(not(ands(257))), ands(4096), not(ors(4096)), and(ands(257), a), and(ors(1), ands(4096)),
		not(or(a, ors(257))), and(not(ors(257)), ands(257)), not(and(not(ands(257)))), and(repeated(16, ands(256))...),
	} {
		has(t, p, 1)
	}
	for _, p := range []api.Pred{
		and(no, ands(257)), not(or(yes, ors(257))), not(or(yes, not(ands(257)))), and(not(ors(257)), no), or(and(ands(4096), no), no),
	} {
		has(t, p, 0)
	}
	has(t, or(yes, ands(257)), 2)
	has(t, or(not(ors(257)), not(and(no, not(ands(257))))), 3)
	has(t, not(and(ors(257), ors(4096))), 2)
}

// P9.1, D1: what comes of some Kids of a product is no part of the predicate. The product is none if one of them has no
// term, and its size can exceed the numbers.
func TestProductsOfKids(t *testing.T) {
	wide := repeated(15, ors(256))
	for _, kids := range [][]api.Pred{
		{ors(16), ors(17), no}, {no, ors(16), ors(17)}, {ors(16), no, ors(17)}, append(wide, no), append([]api.Pred{no}, wide...),
		{ors(256), ors(256), and(a, no)}, {ors(129), no, ors(2), no}, slices.Concat(wide[:7], []api.Pred{not(yes)}, wide[:8]),
	} {
		has(t, and(kids...), 0)
		has(t, or(and(kids...), a), 1)
		has(t, not(or(not(and(kids...)), yes)), 0)
	}
	for n := 2; n <= 15; n++ {
		fails(t, typed(), and(wide[:n]...), api.ErrDecide)
	}
	for _, n := range []int{16, 32, 64, 128} {
		fails(t, typed(), and(repeated(16, ors(n))...), api.ErrDecide)
		fails(t, typed(), and(repeated(8, ors(n))...), api.ErrDecide)
		fails(t, typed(), not(or(repeated(16, ands(n))...)), api.ErrDecide)
		fails(t, typed(), and(and(repeated(16, ors(n))...), no), api.ErrDecide)
	}
}

// P9.1, D3: the terms of Disjoint are those of both predicates and of their And, all in the mode yes.
func TestTooManyTermsOfDisjoint(t *testing.T) {
	for _, l := range [][2]api.Pred{
		{ors(16), ors(16)}, {ors(256), yes}, {ors(256), a}, {ors(256), no}, {ors(2), ors(128)}, {ors(85), ors(3)},
		{not(ands(16)), not(ands(16))}, {ands(257), ors(256)}, {not(ors(257)), not(ands(256))}, {and(ors(16), ors(16)), b},
		{and(no, ands(257)), ors(256)}, {joined(api.Or, repeated(256, yes)), ands(4096)},
	} {
		for _, q := range [][2]api.Pred{l, {l[1], l[0]}} {
			if _, err := decide.Disjoint(typed(), q[0], q[1]); err != api.OK {
				t.Errorf("Disjoint of %s and %s: %v", show(q[0]), show(q[1]), err)
			}
		}
	}
	for _, l := range [][2]api.Pred{
		{ors(16), ors(17)}, {ors(256), ors(2)}, {ors(256), ors(256)}, {ors(129), ors(2)}, {ors(86), ors(3)}, {ors(257), yes},
		{ors(257), a}, {ors(257), no}, {not(ands(257)), no}, {and(no, ors(257)), no}, {not(ands(16)), not(ands(17))},
		{and(ors(16), ors(16)), or(b, b)}, {ors(4096), ors(4096)}, {not(or(yes, ands(257))), ands(9)},
	} {
		disjointFails(t, typed(), l[0], l[1], api.ErrDecide)
		disjointFails(t, typed(), l[1], l[0], api.ErrDecide)
	}
}

// nullOrs is an Or of n IsNull, and nullAnds an And of them. In the mode not yes, nullAnds has n terms and nullOrs one;
// in the mode not no, nullOrs has n terms and nullAnds one.
func nullOrs(n int) api.Pred { return joined(api.Or, repeated(n, d)) }

func nullAnds(n int) api.Pred { return joined(api.And, repeated(n, d)) }

// P9.1, D4: the terms of Implies are those of the first predicate in the mode yes, those of the second one in the mode
// not yes, and their products.
func TestTooManyTermsOfImplies(t *testing.T) {
	doubles := repeated(16, or(a, b))
	for _, l := range [][2]api.Pred{
		{yes, ands(128)}, {yes, nullAnds(256)}, {no, ands(128)}, {no, nullAnds(256)}, {yes, and(ands(127), nullAnds(2))},
		{yes, or(doubles[:4]...)}, {yes, or(a, b, c, e, a, b, c, e)}, {yes, not(and(a, b, c, e, a, b, c, e))},
		{yes, not(ors(128))}, {yes, not(nullOrs(256))}, {ors(128), a}, {ors(256), d}, {ors(256), yes}, {ors(256), no},
		{ors(2), ands(64)}, {ors(16), nullAnds(16)}, {ors(256), nullOrs(4096)}, {ors(256), not(nullAnds(4096))},
		{ors(256), or(ands(128), yes)}, {ands(4096), nullAnds(256)}, {yes, or(nullAnds(16), nullAnds(16))},
		{yes, or(yes, nullAnds(16), nullAnds(17))}, {ors(85), and(d, a)}, {yes, not(and(no, nullOrs(16), nullOrs(17)))},
	} {
		if _, err := decide.Implies(typed(), l[0], l[1]); err != api.OK {
			t.Errorf("Implies of %s and %s: %v", show(l[0]), show(l[1]), err)
		}
	}
	for _, l := range [][2]api.Pred{
		{yes, ands(129)}, {yes, nullAnds(257)}, {no, ands(129)}, {no, nullAnds(257)}, {yes, and(ands(128), nullAnds(1))},
		{yes, or(doubles[:5]...)}, {yes, or(a, b, c, e, a, b, c, e, a)}, {yes, not(and(a, b, c, e, a, b, c, e, a))},
		{yes, not(ors(129))}, {yes, not(nullOrs(257))}, {ors(129), a}, {ors(257), d}, {ors(257), yes}, {ors(257), no},
		{ors(2), ands(65)}, {ors(16), nullAnds(17)}, {ors(256), and(d, d)}, {ors(256), not(or(d, d))}, {yes, or(yes, ands(129))},
		{yes, or(nullAnds(257), yes)}, {yes, not(and(no, nullOrs(257)))}, {yes, or(nullAnds(16), nullAnds(17))},
		{yes, or(yes, or(nullAnds(16), nullAnds(17)))}, {ors(86), and(d, a)}, {and(no, ors(257)), yes}, {yes, ors(9)},
		{yes, not(ands(9))}, {no, or(yes, not(nullOrs(257)))},
	} {
		impliesFails(t, typed(), l[0], l[1], api.ErrDecide)
	}
}

// notYesTerms is how many terms q has in the mode not yes, from 1 to 16: Implies multiplies them.
func notYesTerms(q api.Pred) int {
	k := 256
	for ; k > 0; k-- {
		if _, err := decide.Implies(typed(), joined(api.Or, repeated(k, yes)), q); err == api.OK {
			break
		}
	}
	for n := 1; n <= 16; n++ {
		if 256/n == k {
			return n
		}
	}
	return 0
}

// P9.1, D4: how many terms each line of the table has in the mode not yes, and inside of Not in the mode not no.
func TestNotYesTerms(t *testing.T) {
	for _, x := range []struct {
		q    api.Pred
		want int
	}{
		{no, 1}, {not(yes), 1}, {not(and()), 1}, {d, 1}, {not(d), 1}, {not(not(d)), 1}, {a, 2}, {b, 2}, {c, 2}, {not(a), 2},
		{not(b), 2}, {not(c), 2}, {not(not(a)), 2}, {not(not(not(b))), 2}, {and(a), 2}, {or(a), 2}, {and(d), 1}, {or(d), 1},
		{and(a, b), 4}, {or(a, b), 4}, {and(a, b, c), 6}, {or(a, b, c), 8}, {and(a, d), 3}, {or(a, d), 2}, {and(d, d, d), 3},
		{or(d, d, d), 1}, {not(and(a, b)), 4}, {not(or(a, b)), 4}, {not(and(a, b, c)), 8}, {not(or(a, b, c)), 6},
		{not(and(a, d)), 2}, {not(or(a, d)), 3}, {not(and(d, d, d)), 1}, {not(or(d, d, d)), 3}, {and(yes, a), 2}, {or(no, a), 2},
		{and(no, a), 3}, {not(and(yes, a)), 2}, {not(or(yes, a)), 3}, {not(or(no, a)), 2}, {and(or(a, b), or(c, e)), 8},
		{or(and(a, b), c), 8}, {or(and(a, b), and(c, e)), 16}, {not(or(and(a, b), c)), 6}, {not(and(or(a, b), c)), 8},
		{or(a, not(and(b, c))), 8}, {or(a, not(or(b, c))), 8}, {and(a, not(or(b, c))), 6}, {and(a, not(and(b, c))), 6},
		{or(d, not(or(d, b, a))), 5}, {and(a, a), 4}, {or(a, a), 4}, {and(not(a), not(d)), 3}, {or(not(a), not(d)), 2},
	} {
		l, many := wantTerms(x.q, "not yes")
		if got := notYesTerms(x.q); got != x.want || many || len(l) != x.want {
			t.Errorf("%s has %d terms in the mode not yes instead of %d", show(x.q), got, x.want)
		}
	}
}
