package decide_test

import (
	"math/rand"
	"slices"
	"testing"

	"fenland/api"
	"fenland/decide"
	"fenland/pred"
)

// tally counts results, so that a test notices if one kind of them is missing.
type tally map[string]int

func (n tally) add(what string, is bool, err api.Errno) {
	switch {
	case err != api.OK:
		n[what+" error"]++
	case is:
		n[what+" true"]++
	default:
		n[what+" false"]++
	}
}

func (n tally) atLeast(t *testing.T, want int, kinds ...string) {
	t.Helper()
	for _, kind := range kinds {
		if n[kind] < want {
			t.Errorf("%s: less than %d times in %v", kind, want, n)
		}
	}
}

// tried checks the three decisions about p and q, of which rows are all that there are, or one of each kind.
func (n tally) tried(t *testing.T, s api.Schema, rows []api.Row, p, q api.Pred) {
	t.Helper()
	if _, many := wantTerms(p, "yes"); !many {
		want := wantWitness(rows, p)
		n.add("Witness", want, api.OK)
		witness(t, s, p, want)
	} else {
		n.add("Witness", false, api.ErrDecide)
		fails(t, s, p, api.ErrDecide)
	}
	if err := wantTogether(p, q, "yes"); err == api.OK {
		want := wantDisjoint(rows, p, q)
		n.add("Disjoint", want, err)
		disjoint(t, s, p, q, want)
	} else {
		n.add("Disjoint", false, err)
		disjointFails(t, s, p, q, err)
		disjointFails(t, s, q, p, err)
	}
	if err := wantTogether(p, q, "not yes"); err == api.OK {
		want := wantImplies(rows, p, q)
		n.add("Implies", want, err)
		implies(t, s, p, q, want)
	} else {
		n.add("Implies", false, err)
		impliesFails(t, s, p, q, err)
	}
}

var decisions = []string{"Witness true", "Witness false", "Disjoint true", "Disjoint false", "Implies true", "Implies false"}

// related is a second predicate that has often something to do with p.
func related(r *rand.Rand, p, q api.Pred) api.Pred {
	switch r.Intn(8) {
	case 0:
		return or(p, q)
	case 1:
		return and(q, not(p))
	case 2:
		return and(q, p)
	case 3:
		return or(q, not(p))
	}
	return q
}

// P9.3 and P9.4: a field of each type, and two fields. One row of each kind is tried.
func TestAgainstRows(t *testing.T) {
	r := rand.New(rand.NewSource(3))
	n := tally{}
	for range 5000 {
		ids := anyIDs(r, 2)
		p := anyPred(r, 1+r.Intn(5), ids...)
		q := related(r, p, anyPred(r, 1+r.Intn(5), ids...))
		n.tried(t, typed(), rowsFor(p, q), p, q)
	}
	n.atLeast(t, 400, decisions...)
	n.atLeast(t, 5, "Disjoint error", "Implies error")
}

// P9.3 and P9.4: conjunctions of literals about one field, which exclude a lot.
func TestLiteralsAgainstRows(t *testing.T) {
	r := rand.New(rand.NewSource(4))
	n := tally{}
	for range 8000 {
		id := anyIDs(r, 1)[0]
		var l []api.Pred
		for range 2 + r.Intn(6) {
			p := simple(r, id)
			if r.Intn(2) == 0 {
				p = not(p)
			}
			l = append(l, p)
		}
		cut := r.Intn(len(l) + 1)
		p, q := and(l[:cut]...), and(l[cut:]...)
		rows := rowsFor(l...)
		n.tried(t, typed(), rows, p, q)
		together(t, wantWitness(rows, and(l...)), l...)
	}
	n.atLeast(t, 400, decisions...)
}

// allOfBools are the 27 rows of a schema of three fields of the type Bool.
func allOfBools() (api.Schema, []api.Row) {
	s := many(3)
	rows := []api.Row{{}}
	for i := range s.Fields {
		s.Fields[i].Type = api.Bool
		for _, x := range slices.Clone(rows) {
			for n := range int64(2) {
				rows = append(rows, row(slices.Concat(x.Cells, []api.Cell{cell(i+1, num(n))})...))
			}
		}
	}
	return s, rows
}

// P9.3 and P9.4: a small schema, all of whose rows are tried.
func TestAgainstAllRows(t *testing.T) {
	r := rand.New(rand.NewSource(5))
	s, rows := allOfBools()
	if len(rows) != 27 {
		t.Fatalf("%d rows", len(rows))
	}
	simple := func() api.Pred {
		id := 1 + r.Intn(3)
		return pick(r, []api.Pred{inNums(id, 0), inNums(id, 1), inNums(id, 0, 1), between(id, 0, 0), between(id, 1, 9), isNull(id)})
	}
	n := tally{}
	for range 8000 {
		p := anyOf(r, 1+r.Intn(5), simple)
		n.tried(t, s, rows, p, related(r, p, anyOf(r, 1+r.Intn(5), simple)))
	}
	n.atLeast(t, 500, decisions...)
}

// anyRow is any row that fits typed.
func anyRow(r *rand.Rand) api.Row {
	var x api.Row
	for _, id := range []int{aBool, aSmall, anInt, aText, aDay, otherText, lastInt} {
		if v := pick(r, valuesFor(id, prefix(aText, "ab"), prefix(otherText, "b"))); !v.Null && r.Intn(4) > 0 {
			x.Cells = append(x.Cells, cell(id, v))
		}
	}
	return x
}

// P9.4: all fields at once. A row that satisfies a predicate requires a witness, one that satisfies two predicates
// refutes Disjoint, and one that satisfies only the first one refutes Implies.
func TestAgainstOneRow(t *testing.T) {
	r := rand.New(rand.NewSource(6))
	n := tally{}
	ids := []int{aBool, aSmall, anInt, aText, aDay, otherText, lastInt}
	for range 20000 {
		p, q, x := anyPred(r, 1+r.Intn(5), ids...), anyPred(r, 1+r.Intn(5), ids...), anyRow(r)
		if !pred.Match(p, x) {
			continue
		}
		_, ok, err := decide.Witness(typed(), p)
		if n.add("Witness", ok, err); !ok && err == api.OK {
			t.Errorf("Witness of %s: none, but %v", show(p), x)
		}
		if pred.Match(q, x) {
			is, err := decide.Disjoint(typed(), p, q)
			if n.add("Disjoint", is, err); is {
				t.Errorf("Disjoint of %s and %s: not for %v", show(p), show(q), x)
			}
		} else {
			is, err := decide.Implies(typed(), p, q)
			if n.add("Implies", is, err); is {
				t.Errorf("Implies of %s and %s: not for %v", show(p), show(q), x)
			}
		}
	}
	n.atLeast(t, 1000, "Witness true", "Disjoint false", "Implies false")
}

// P9.5: the laws of one and two predicates.
func TestLawsOfTwo(t *testing.T) {
	r := rand.New(rand.NewSource(7))
	n := tally{}
	for range 5000 {
		ids := anyIDs(r, 3)
		p := anyPred(r, 1+r.Intn(5), ids...)
		q := related(r, p, anyPred(r, 1+r.Intn(5), ids...))
		is, err := decide.Disjoint(typed(), p, q)
		turned, turnedErr := decide.Disjoint(typed(), q, p)
		if n.add("symmetry", is, err); is != turned || err != turnedErr {
			t.Errorf("Disjoint of %s and %s: %v, %v and %v, %v", show(p), show(q), is, err, turned, turnedErr)
		}
		is, err = decide.Disjoint(typed(), p, not(p))
		if n.add("negation", is, err); !is && err != api.ErrDecide {
			t.Errorf("Disjoint of %s and its negation: %v", show(p), err)
		}
		is, err = decide.Implies(typed(), p, p)
		if n.add("identity", is, err); !is && err != api.ErrDecide {
			t.Errorf("Implies of %s and itself: %v", show(p), err)
		}
		for _, x := range []api.Pred{p, q} {
			is, err = decide.Implies(typed(), and(p, q), x)
			if n.add("conjunction", is, err); !is && err != api.ErrDecide {
				t.Errorf("Implies of And of %s and %s, and one of them: %v", show(p), show(q), err)
			}
		}
	}
	n.atLeast(t, 1000, "symmetry true", "symmetry false", "negation true", "identity true", "conjunction true")
}

// P9.5: the laws of three predicates.
func TestLawsOfThree(t *testing.T) {
	r := rand.New(rand.NewSource(8))
	n := tally{}
	for range 15000 {
		ids := anyIDs(r, 1)
		p := anyPred(r, 1+r.Intn(4), ids...)
		q := related(r, p, anyPred(r, 1+r.Intn(4), ids...))
		x := related(r, q, anyPred(r, 1+r.Intn(4), ids...))
		if is, err := decide.Implies(typed(), p, q); !is || err != api.OK {
			continue
		}
		if second, _ := decide.Implies(typed(), q, x); second {
			is, err := decide.Implies(typed(), p, x)
			if n.add("transitivity", is, err); !is && err != api.ErrDecide {
				t.Errorf("%s implies %s, and this %s: %v", show(p), show(q), show(x), err)
			}
		}
		if excluded, _ := decide.Disjoint(typed(), q, x); excluded {
			is, err := decide.Disjoint(typed(), p, x)
			if n.add("exclusion", is, err); !is && err != api.ErrDecide {
				t.Errorf("%s implies %s, and this excludes %s: %v", show(p), show(q), show(x), err)
			}
		}
	}
	n.atLeast(t, 1000, "transitivity true", "exclusion true")
}
