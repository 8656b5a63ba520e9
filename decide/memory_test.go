package decide_test

import (
	"math/rand"
	"slices"
	"sync"
	"testing"
	"unsafe"

	"fenland/api"
	"fenland/decide"
)

// samples are predicates with all operators, of which literals come several times in the terms.
func samples() []api.Pred {
	l := []api.Pred{
		yes, no, and(), a, b, not(b), d, not(not(c)), and(b, not(b)), or(b, b), not(and(b, e, d)), and(or(b, c), or(b, e), not(b)),
		not(or(and(b, e), and(not(b), e), d)), and(or(b, not(b)), or(e, not(e)), or(b, e)), ors(257), and(a, prefix(anInt, "")),
		and(b, or(not(b), and(b, not(and(b, b)))), e), between(anInt, 4, 3), and(or(b, b), or(b, b), not(or(b, not(e)))),
	}
	r := rand.New(rand.NewSource(9))
	for range 300 {
		l = append(l, anyPred(r, 1+r.Intn(5), anyIDs(r, 3)...))
	}
	return l
}

// roomy is a copy of p whose lists have room behind them, with something in it. Lists without elements are not nil.
func roomy(p api.Pred) api.Pred {
	kids := []api.Pred{}
	for _, k := range p.Kids {
		kids = append(kids, roomy(k))
	}
	p.Set = append(slices.Clip(p.Set), num(-77), text("room"), null)[:len(p.Set)]
	p.Kids = append(slices.Clip(kids), isNull(-77), b, not(c))[:len(kids)]
	return p
}

// whole is p with all that is in the room behind its lists.
func whole(p api.Pred) api.Pred {
	p.Set = slices.Clone(p.Set[:cap(p.Set)])
	kids := slices.Clone(p.Kids[:cap(p.Kids)])
	for i := range p.Kids {
		kids[i] = whole(kids[i])
	}
	p.Kids = kids
	return p
}

// roomySchema is typed with room behind its fields.
func roomySchema() api.Schema {
	s := typed()
	s.Fields = append(slices.Clip(s.Fields), api.Field{ID: -77}, api.Field{ID: 99, Name: "room"})[:len(s.Fields)]
	return s
}

// P2: no call changes its arguments, nor what is in the room behind their lists.
func TestArgumentsStay(t *testing.T) {
	s := roomySchema()
	fields := slices.Clone(s.Fields[:cap(s.Fields)])
	second := samples()
	slices.Reverse(second)
	for i, x := range samples() {
		p, q := roomy(x), roomy(second[i])
		beforeP, beforeQ := whole(p), whole(q)
		decide.Normal(s, p)
		decide.Witness(s, p)
		decide.Disjoint(s, p, q)
		decide.Implies(s, p, q)
		if !equal(whole(p), beforeP) || !equal(whole(q), beforeQ) {
			t.Errorf("%s or %s is changed", show(x), show(second[i]))
		}
		if !slices.Equal(s.Fields[:cap(s.Fields)], fields) || s.Next != typed().Next {
			t.Errorf("the schema is changed")
		}
	}
}

// span is the memory of a list.
type span struct{ from, to uintptr }

// spanOf returns the memory of a list and of the room behind it, or nothing if it has none.
func spanOf[T any](l []T) []span {
	if cap(l) == 0 {
		return nil
	}
	from := uintptr(unsafe.Pointer(unsafe.SliceData(l)))
	return []span{{from, from + uintptr(cap(l))*unsafe.Sizeof(*unsafe.SliceData(l))}}
}

func spansOf(p api.Pred) []span {
	l := append(spanOf(p.Set), spanOf(p.Kids)...)
	for _, k := range p.Kids {
		l = append(l, spansOf(k)...)
	}
	return l
}

func spansOfTerms(terms [][]api.Pred) []span {
	l := spanOf(terms)
	for _, term := range terms {
		l = append(l, spanOf(term)...)
		for _, p := range term {
			l = append(l, spansOf(p)...)
		}
	}
	return l
}

// separate tells whether no two spans overlap.
func separate(l []span) bool {
	l = slices.Clone(l)
	slices.SortFunc(l, func(x, y span) int {
		if x.from < y.from {
			return -1
		}
		return 1
	})
	for i := 1; i < len(l); i++ {
		if l[i].from < l[i-1].to {
			return false
		}
	}
	return true
}

// P2: no list in a result of Normal has memory of another one, of another result or of an argument.
func TestTermsShareNothing(t *testing.T) {
	s := roomySchema()
	for _, p := range samples() {
		p = roomy(p)
		first, _ := decide.Normal(s, p)
		second, _ := decide.Normal(s, p)
		if !separate(slices.Concat(spansOfTerms(first), spansOfTerms(second), spansOf(p), spanOf(s.Fields))) {
			t.Errorf("the terms of %s share memory", show(p))
		}
		if !equalTerms(first, second) {
			t.Errorf("two results for %s: %s and %s", show(p), showTerms(first), showTerms(second))
		}
	}
	if separate([]span{{8, 16}, {0, 9}}) || !separate([]span{{8, 16}, {0, 8}}) {
		t.Error("the test does not find shared memory")
	}
}

// P2: a row has no memory of another row.
func TestWitnessesShareNothing(t *testing.T) {
	for _, p := range samples() {
		first, ok, err := decide.Witness(typed(), p)
		second, _, _ := decide.Witness(typed(), p)
		if !separate(append(spanOf(first.Cells), spanOf(second.Cells)...)) {
			t.Errorf("two rows for %s share memory", show(p))
		}
		if (err != api.OK || !ok) && len(first.Cells) > 0 {
			t.Errorf("a row %v", first)
		}
	}
}

// P2: a result stays if the arguments change later.
func TestResultsStay(t *testing.T) {
	for _, p := range samples() {
		want, _ := decide.Normal(typed(), p)
		arg := clone(p)
		got, _ := decide.Normal(typed(), arg)
		for _, q := range nodes(arg) {
			for i := range q.Set {
				q.Set[i] = num(-77)
			}
			for i := range q.Kids {
				q.Kids[i] = isNull(-77)
			}
		}
		if !equalTerms(got, want) {
			t.Errorf("the terms of %s change: %s", show(p), showTerms(got))
		}
	}
}

// P2: the same arguments have the same results, in any order of calls, and at the same time.
func TestCallsAtTheSameTime(t *testing.T) {
	l := samples()
	type results struct {
		terms             [][]api.Pred
		cells             []api.Cell
		ok                bool
		disjoint, implies bool
		errs              [4]api.Errno
	}
	decideAll := func(i int) (x results) {
		var r api.Row
		p, q := l[i], l[len(l)-1-i]
		x.terms, x.errs[0] = decide.Normal(typed(), p)
		r, x.ok, x.errs[1] = decide.Witness(typed(), p)
		x.disjoint, x.errs[2] = decide.Disjoint(typed(), p, q)
		x.implies, x.errs[3] = decide.Implies(typed(), p, q)
		x.cells = r.Cells
		return x
	}
	var want []results
	for i := range l {
		want = append(want, decideAll(i))
	}
	var wait sync.WaitGroup
	for n := range 8 {
		wait.Go(func() {
			for k := range l {
				i := (k*(2*n+1) + n) % len(l)
				x, y := decideAll(i), want[i]
				if !equalTerms(x.terms, y.terms) || !slices.Equal(x.cells, y.cells) || x.ok != y.ok || x.disjoint != y.disjoint ||
					x.implies != y.implies || x.errs != y.errs {
					t.Errorf("%s: %+v and %+v", show(l[i]), x, y)
				}
			}
		})
	}
	wait.Wait()
}

// P2: a row of many fields does not depend on the order of a map.
func TestWitnessIsTheSame(t *testing.T) {
	s := many(64)
	var l []api.Pred
	for _, f := range s.Fields {
		l = append(l, not(isNull(f.ID)))
	}
	p := joined(api.And, l)
	first := witness(t, s, p, true)
	if len(first.Cells) != 64 {
		t.Errorf("%d cells", len(first.Cells))
	}
	for range 50 {
		if r := witness(t, s, p, true); !slices.Equal(r.Cells, first.Cells) {
			t.Fatalf("%v and %v", first, r)
		}
	}
}

// P2: nil and empty slices are interchangeable.
func TestNilAndEmpty(t *testing.T) {
	empty := api.Pred{Op: api.Not, Set: []api.Value{}, Kids: []api.Pred{{
		Op: api.Or, Set: make([]api.Value, 0, 3), Kids: []api.Pred{{Op: api.IsNull, ID: anInt, Set: []api.Value{}, Kids: []api.Pred{}}},
	}}}
	normal(t, empty, term(not(isNull(anInt))))
	normal(t, api.Pred{Op: api.And, Kids: []api.Pred{}}, term())
	normal(t, api.Pred{Op: api.Or, Kids: make([]api.Pred, 0, 3)})
	witness(t, typed(), empty, true)
	witness(t, api.Schema{Next: 1, Fields: []api.Field{}}, api.Pred{Kids: []api.Pred{}}, true)
	implies(t, typed(), empty, not(isNull(anInt)), true)
	disjoint(t, typed(), empty, isNull(anInt), true)
}

// P1: all functions return for predicates that are very deep or very wide, and for as large ones as are valid.
func TestLargePredicates(t *testing.T) {
	for _, op := range []int{api.And, api.Or, api.Not, 8} {
		p := a
		for range 60000 {
			p = api.Pred{Op: op, Kids: []api.Pred{p}}
		}
		fails(t, typed(), p, api.ErrArg)
	}
	for _, op := range []int{api.And, api.Or, api.Not} {
		fails(t, typed(), api.Pred{Op: op, Kids: repeated(300000, a)}, api.ErrArg)
	}
	full := not(between(anInt, 5, 9))
	for range 4 {
		full = and(repeated(16, full)...)
	}
	if l, err := decide.Normal(typed(), full); err != api.OK || len(l) != 1 || len(l[0]) != 1<<16 || !equal(l[0][1<<16-1], not(between(anInt, 5, 9))) {
		t.Errorf("Normal: %d terms, %v", len(l), err)
	}
	witness(t, typed(), full, true)
	witness(t, typed(), and(full, between(anInt, 5, 9)), false)
	disjointFails(t, typed(), full, not(full), api.ErrDecide)
	implies(t, typed(), full, not(between(anInt, 6, 8)), true)
	fails(t, typed(), not(full), api.ErrDecide)
	var sets []api.Pred
	for i := range int64(4096) {
		sets = append(sets, not(inNums(lastInt, 3*i, 3*i+1, 3*i+2)))
	}
	together(t, false, append(sets, between(lastInt, 0, 3*4096-1))...)
	onlyValue(t, lastInt, num(3*4096), append(sets, between(lastInt, 0, 3*4096))...)
}
