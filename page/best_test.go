package page_test

import (
	"math/rand"
	"slices"
	"testing"

	"fenland/api"
	"fenland/page"
)

// P10.1, A2, and P10.4: for each set of kinds, columns for which the kinds of the set are the shortest ones.
func TestEquallyShortPages(t *testing.T) {
	const most = 1000000
	ab := "abcde"
	for _, x := range []struct {
		t, best int
		equal   []int // other kinds that are as short
		l       []api.Value
	}{
		{api.Int, api.Plain, nil, nums(63, -64)},
		{api.Int, api.Plain, []int{api.Dict}, nums(8191, -64, 8191, 8191)},
		{api.Int, api.Plain, []int{api.Delta}, nums(0)},
		{api.Int, api.Plain, []int{api.Runs}, nums(8191, 8191, -64, -64)},
		{api.Int, api.Plain, []int{api.Dict, api.Delta}, nums(8191, 0, 8191, 8191)},
		{api.Int, api.Plain, []int{api.Dict, api.Runs}, nums(63, 63, -8192, -8192, -8192, 63)},
		{api.Int, api.Plain, []int{api.Delta, api.Runs}, nil},
		{api.Int, api.Plain, []int{api.Dict, api.Delta, api.Runs}, nums(0, 0, -8192, -8192, -8192, 0)},
		{api.Int, api.Dict, nil, nums(8191, -64, 8191, 8191, 8191)},
		{api.Int, api.Dict, []int{api.Delta}, nums(8191, 0, 8191, 8191, 8191)},
		{api.Int, api.Dict, []int{api.Runs}, nums(63, -8192, -8192, -8192, -8192, 63)},
		{api.Int, api.Dict, []int{api.Delta, api.Runs}, nums(0, -8192, -8192, -8192, -8192, 0)},
		{api.Int, api.Delta, nil, nums(0, 8191, 8191)},
		{api.Int, api.Delta, []int{api.Runs}, nums(8191, 8191)},
		{api.Int, api.Runs, nil, nums(0, 0, 0)},
		{api.Bool, api.Plain, []int{api.Delta}, []api.Value{null}},
		{api.Bool, api.Plain, []int{api.Delta, api.Runs}, nil},
		{api.Bool, api.Runs, nil, nums(0, 0, 0)},
		{api.Small, api.Plain, nil, nums(65, 0)},
		{api.Small, api.Dict, nil, nums(65, 0, 65, 0, 65, 65)},
		{api.Small, api.Delta, nil, nums(1, 64)},
		{api.Small, api.Delta, []int{api.Runs}, nums(65, 65)},
		{api.Small, api.Plain, []int{api.Runs}, nums(65, 0, 0, 0, 0)},
		{api.Day, api.Plain, nil, nums(-most, 0)},
		{api.Day, api.Dict, nil, nums(-most, 0, -most, -most)},
		{api.Day, api.Delta, nil, nums(-most, 1-most)},
		{api.Day, api.Runs, nil, nums(0, 0, 0)},
		{api.Day, api.Plain, []int{api.Dict, api.Delta, api.Runs}, nums(-most, -most, 0)},
		{api.Text, api.Plain, nil, []api.Value{null}},
		{api.Text, api.Plain, []int{api.Dict}, []api.Value{text("a"), null, text("a"), text("a")}},
		{api.Text, api.Plain, []int{api.Runs}, nil},
		{api.Text, api.Plain, []int{api.Dict, api.Runs}, texts("", "", "a", "a", "a", "")},
		{api.Text, api.Dict, nil, []api.Value{text(ab), null, text(ab)}},
		{api.Text, api.Dict, []int{api.Runs}, []api.Value{null, text(ab), text(ab)}},
		{api.Text, api.Runs, nil, texts("a", "a")},
		{api.Int, api.Plain, []int{api.Delta}, []api.Value{null}},
		{api.Int, api.Plain, []int{api.Delta, api.Runs}, times(9, null)},
		{api.Int, api.Runs, nil, times(17, null)},
	} {
		best := encode(t, x.l, x.t, x.best)
		for _, kind := range kindsOf(x.t) {
			p := encode(t, x.l, x.t, kind)
			if kind != x.best && len(p.B) <= len(best.B) != slices.Contains(x.equal, kind) || len(p.B) < len(best.B) {
				t.Fatalf("%s of the type %d: the kinds %d and %d have %d and %d bytes", show(x.l), x.t, x.best, kind, len(best.B), len(p.B))
			}
		}
		if p, err := page.Best(x.l, x.t); err != api.OK || !equal(p, best) {
			t.Errorf("Best(%s, %d) = %s, %v instead of %s", show(x.l), x.t, showPage(p), err, showPage(best))
		}
	}
}

// best checks P10.4 for a column.
func best(t *testing.T, l []api.Value, typ int) int {
	t.Helper()
	p, err := page.Best(l, typ)
	if want, wantErr := wantBest(l, typ); err != wantErr || !equal(p, want) {
		t.Fatalf("Best(%s, %d) = %s, %v instead of %s, %v", show(l), typ, showPage(p), err, showPage(want), wantErr)
	}
	for _, kind := range kindsOf(typ) {
		q := encode(t, l, typ, kind)
		if len(q.B) < len(p.B) || len(q.B) == len(p.B) && kind < p.Kind {
			t.Fatalf("Best(%s, %d) has the kind %d with %d bytes; the kind %d has %d", show(l), typ, p.Kind, len(p.B), kind, len(q.B))
		}
		if kind == p.Kind && !equal(p, q) {
			t.Fatalf("Best(%s, %d) = %s, but Encode returns %s", show(l), typ, showPage(p), showPage(q))
		}
	}
	decodes(t, p, typ, l)
	return p.Kind
}

// P10.4: no kind is shorter, and the page is that of its kind, for all columns and types. Each kind is the best one of
// some columns of each type, but for Bool, whose dictionaries and differences are as long as the values.
func TestBest(t *testing.T) {
	for _, typ := range types {
		seen := map[int]int{}
		for _, l := range columns(typ) {
			seen[best(t, l, typ)]++
		}
		for _, kind := range kindsOf(typ) {
			if seen[kind] == 0 && (typ != api.Bool || kind == api.Plain || kind == api.Runs) {
				t.Errorf("the kind %d is the best one of no column of the type %d", kind, typ)
			}
		}
	}
}

// P10.4: all columns of up to six values, of which each is a null or one of three.
func TestBestOfSmallColumns(t *testing.T) {
	for typ, l := range map[int][]api.Value{
		api.Bool: nums(0, 1), api.Small: nums(64, 65, -8192), api.Int: nums(0, 8191, -64), api.Text: texts("", "a", "abc"),
		api.Day: nums(-1000000, -999999, 0),
	} {
		for _, l := range smallColumns(6, append(l, null)...) {
			best(t, l, typ)
		}
	}
}

// P10.4: columns of 1024 values, for each kind.
func TestBestOfLongColumns(t *testing.T) {
	r := rand.New(rand.NewSource(6))
	var plain, dict, delta, runs []api.Value
	for i := range int64(1024) {
		plain = append(plain, num(r.Int63n(127)-63))
		dict = append(dict, num(r.Int63n(7)*1000003))
		delta = append(delta, num(-2000000000+50*i))
		runs = append(runs, num(i/300))
	}
	for kind, l := range map[int][]api.Value{api.Plain: plain, api.Dict: dict, api.Delta: delta, api.Runs: runs} {
		for _, typ := range []int{api.Small, api.Int} {
			if got := best(t, l, typ); got != kind {
				t.Errorf("the best page of %s is of the kind %d instead of %d", show(l), got, kind)
			}
		}
		for _, at := range []int{0, 500, 1023} {
			l[at] = null
			if got := best(t, l, api.Int); got != kind {
				t.Errorf("the best page of %s is of the kind %d instead of %d", show(l), got, kind)
			}
		}
	}
}
