package lens_test

import (
	"math/rand"
	"testing"

	"fenland/api"
	"fenland/lens"
	"fenland/schema"
)

// journeys calls f with changes of every kind that follow one another, and with the schemas before, between and behind
// them.
func journeys(t *testing.T, seed int64, f func(r *rand.Rand, l []api.Change, path []api.Schema)) {
	r := rand.New(rand.NewSource(seed))
	kinds := map[int]int{}
	for range 40 {
		l, path := anyHistory(r, 24)
		for _, c := range l {
			kinds[c.Kind]++
		}
		f(r, l, path)
	}
	for kind := api.AddField; kind <= api.JoinFields; kind++ {
		if kinds[kind] < 20 {
			t.Errorf("only %d changes of the kind %d", kinds[kind], kind)
		}
	}
}

// arrives is what Translate returns, which has no error.
func arrives(t *testing.T, l []api.Change, r api.Row, from, to int) api.Row {
	t.Helper()
	got, err := lens.Translate(l, r, [2]int{from, to})
	if err != api.OK {
		t.Fatalf("Translate of %v from %d to %d of %+v: %v", r, from, to, l, err)
	}
	return got
}

// P7.2: results of Translate between all positions, and of Forward and Back along each change, fit.
func TestResultsFit(t *testing.T) {
	journeys(t, 5, func(r *rand.Rand, l []api.Change, path []api.Schema) {
		for from, s := range path {
			for to := range path {
				if x := anyRow(r, s); !schema.Fits(path[to], arrives(t, l, x, from, to)) {
					t.Errorf("%v does not fit from %d to %d of %+v", x, from, to, l)
				}
			}
		}
		for i, c := range l {
			for range 5 {
				before, behind := anyRow(r, path[i]), anyRow(r, path[i+1])
				if x := lens.Forward(path[i], c, before); !schema.Fits(path[i+1], x) {
					t.Errorf("Forward of %+v: %v becomes %v", c, before, x)
				}
				if x := lens.Back(path[i], c, behind); !schema.Fits(path[i], x) {
					t.Errorf("Back of %+v: %v becomes %v", c, behind, x)
				}
			}
		}
	})
}

// P7.2: results fit also where changes are not possible or rows do not fit.
func TestResultsAlwaysFit(t *testing.T) {
	for _, x := range impossible() {
		if got := lens.Forward(x.s, x.c, everybody()); !schema.Fits(x.s, got) || len(got.Cells) > 0 {
			t.Errorf("Forward of %+v, which is not possible: %v", x.c, got)
		}
	}
	for _, c := range possible() {
		for _, x := range spoilt(everybody()) {
			to := after(people(), c)
			if !schema.Fits(to, lens.Forward(people(), c, x)) || !schema.Fits(people(), lens.Back(people(), c, x)) {
				t.Errorf("%+v: the results for %v do not fit", c, x)
			}
		}
	}
}

// kept tells whether a field that both schemas have with the same type has the same value in both rows.
func kept(s, to api.Schema, before, after api.Row) bool {
	was, is := valuesOf(before), valuesOf(after)
	for _, f := range s.Fields {
		g, ok := schema.Field(to, f.ID)
		v, okV := was[f.ID]
		w, okW := is[f.ID]
		if ok && f.Type == g.Type && (okV != okW || v != w) {
			return false
		}
	}
	return true
}

// P7.3: between all positions, in both directions.
func TestFieldsKept(t *testing.T) {
	journeys(t, 6, func(r *rand.Rand, l []api.Change, path []api.Schema) {
		for from, s := range path {
			for to := range path {
				x := anyRow(r, s)
				if got := arrives(t, l, x, from, to); !kept(s, path[to], x, got) {
					t.Errorf("%v becomes %v from %d to %d of %+v", x, got, from, to, l)
				}
			}
		}
	})
}

// P7.4: what is lossless comes back by Translate, and what is not does not.
func TestLosslessJourneys(t *testing.T) {
	journeys(t, 7, func(r *rand.Rand, l []api.Change, path []api.Schema) {
		for i, c := range l {
			for range 10 {
				x := anyRow(r, path[i])
				back := arrives(t, l, arrives(t, l, x, i, i+1), i+1, i)
				if lens.Lossless(path[i], c, x) != same(back, x) {
					t.Errorf("%+v: %v comes back as %v", c, x, back)
				}
				if c.Kind != api.DropField && c.Kind != api.JoinFields && !same(back, x) {
					t.Errorf("%+v is not lossless for %v", c, x)
				}
			}
		}
	})
}

// P7.5: along each change, from rows on both sides of it, by Forward and Back and by Translate.
func TestStable(t *testing.T) {
	journeys(t, 8, func(r *rand.Rand, l []api.Change, path []api.Schema) {
		for i, c := range l {
			for range 10 {
				s := path[i]
				before := anyRow(r, s)
				if r.Intn(2) == 0 {
					before = lens.Back(s, c, anyRow(r, path[i+1]))
				}
				once := lens.Forward(s, c, before)
				if again := lens.Forward(s, c, lens.Back(s, c, once)); !same(again, once) {
					t.Errorf("%+v: %v becomes %v, and then %v", c, before, once, again)
				}
				once = arrives(t, l, before, i, i+1)
				if again := arrives(t, l, arrives(t, l, once, i+1, i), i, i+1); !same(again, once) {
					t.Errorf("change %d of %+v: %v becomes %v, and then %v", i, l, before, once, again)
				}
			}
		}
	})
}

// P7.5: connected texts that are cut before, within and behind the separator.
func TestStableWhereCut(t *testing.T) {
	for n := 180; n <= 200; n++ {
		for _, sep := range []string{"-", "--", "-x", "x-", "xx", dashes(16)} {
			for _, before := range []api.Row{row(text(4, xs(n))), row(text(17, xs(n))), row(text(4, xs(n)), text(17, "-y")),
				row(text(4, xs(n-1)+"-"), text(17, "-y")), row(text(4, "y"), text(17, xs(n)))} {
				c := joining(4, 17, sep)
				once := lens.Forward(people(), c, before)
				if again := lens.Forward(people(), c, lens.Back(people(), c, once)); !same(again, once) {
					t.Errorf("%+v: %v becomes %v, and then %v", c, before, once, again)
				}
				if len(once.Cells) != 1 || len(once.Cells[0].V.S) < 180 || len(once.Cells[0].V.S) > 200 {
					t.Errorf("%+v: %v becomes %v", c, before, once)
				}
			}
		}
	}
}

// P7.6: for every a, b and c with b between a and c, in both directions.
func TestComposition(t *testing.T) {
	r := rand.New(rand.NewSource(9))
	for range 12 {
		l, path := anyHistory(r, 14)
		composed(t, l, path, func(s api.Schema) api.Row { return anyRow(r, s) })
	}
	l := history()
	path := []api.Schema{schema.New()}
	for _, c := range l {
		path = append(path, after(path[len(path)-1], c))
	}
	for range 12 {
		composed(t, l, path, func(s api.Schema) api.Row { return anyRow(r, s) })
	}
	for n := range len(l) {
		composed(t, l[:n], path[:n+1], func(api.Schema) api.Row { return api.Row{} })
	}
}

func composed(t *testing.T, l []api.Change, path []api.Schema, rowFor func(api.Schema) api.Row) {
	t.Helper()
	for a, s := range path {
		for c := range path {
			x := rowFor(s)
			direct := arrives(t, l, x, a, c)
			for b := min(a, c); b <= max(a, c); b++ {
				if got := arrives(t, l, arrives(t, l, x, a, b), b, c); !same(got, direct) {
					t.Errorf("%v from %d to %d of %+v: %v, but by %d: %v", x, a, c, l, direct, b, got)
				}
			}
		}
	}
}
