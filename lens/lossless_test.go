package lens_test

import (
	"math"
	"math/rand"
	"testing"

	"fenland/api"
	"fenland/lens"
)

// P7.4 and A4: adding, renaming, moving, widening and splitting a field are lossless for every row.
func TestLossless(t *testing.T) {
	r := rand.New(rand.NewSource(3))
	for _, c := range possible() {
		if c.Kind == api.DropField || c.Kind == api.JoinFields {
			continue
		}
		for _, x := range append(someRows(r, people(), 60), everybody()) {
			if !lens.Lossless(people(), c, x) {
				t.Errorf("%+v is not lossless for %v", c, x)
			}
		}
	}
	for _, n := range []int64{math.MinInt32, 0, math.MaxInt32} {
		if !lens.Lossless(people(), widening(6), row(number(6, n))) {
			t.Errorf("widening %d is not lossless", n)
		}
	}
}

// A4: dropping a field is lossless exactly if it is null.
func TestLosslessDrop(t *testing.T) {
	for i, c := range everybody().Cells {
		others := row(append(append([]api.Cell{}, everybody().Cells[:i]...), everybody().Cells[i+1:]...)...)
		for _, x := range []api.Row{{}, others} {
			if !lens.Lossless(people(), dropping(c.ID), x) {
				t.Errorf("dropping %d is not lossless for %v", c.ID, x)
			}
		}
		for _, x := range []api.Row{everybody(), row(c)} {
			if lens.Lossless(people(), dropping(c.ID), x) {
				t.Errorf("dropping %d is lossless for %v", c.ID, x)
			}
		}
	}
	if lens.Lossless(people(), dropping(18), row(number(18, 0))) || lens.Lossless(people(), dropping(7), row(text(7, ""))) {
		t.Error("0 and the empty text count as null")
	}
	if !lens.Lossless(people(), dropping(16), everybody()) {
		t.Error("dropping a group is not lossless")
	}
}

// P7.4 and A4: joining two fields, in both orders, where the conditions of P7.4 hold and where one of them does not.
func TestLosslessJoin(t *testing.T) {
	for _, x := range []struct {
		a, sep, b string
		want      bool
	}{
		{"a", "-", "b", true}, {"", "-", "", true}, {"a", "-", "", true}, {"", "-", "b", true}, {xs(100), "-", ys(99), true},
		{xs(199), "-", "", true}, {"", "-", ys(199), true}, {xs(92), dashes(16), ys(92), true}, {"é", "\xff", "\x00", true},
		// The separator occurs again, behind where it was inserted.
		{"a", "-", "b-", true}, {"a", "-", "-b", true}, {"a", "--", "-", true}, {"a", "-", "-", true},
		{"b", "aa", "aaa", true},
		{"ba", "ab", "b", true},
		// It occurs in the first text, or begins in it.
		{"a-", "-", "b", false}, {"-a", "-", "b", false}, {"-", "-", "", false}, {"a-c", "-", "b", false},
		{"a--", "--", "b", false},
		{"a-", "--", "b", false}, {"a", "aa", "b", false}, {"ba", "aa", "", false}, {"ab", "aba", "c", false},
		{"ca", "aba", "c", true},
		{xs(100) + "-", "-", ys(98), false},
		// The result is cut.
		{xs(100), "-", ys(100), false}, {xs(200), "-", "y", false}, {xs(199), "-", "y", false}, {xs(199), "--", "", false},
		{xs(200), "-", "", false}, {"", "-", ys(200), false}, {xs(93), dashes(16), ys(92), false},
		{xs(10), "-", ys(200), false},
	} {
		for ids, before := range map[[2]int]api.Row{
			{4, 17}: row(text(4, x.a), text(17, x.b)),
			{17, 4}: row(text(4, x.b), text(17, x.a)),
			{7, 17}: row(number(2, 0), text(4, "-"), text(7, x.a), number(9, 5), text(17, x.b), number(18, 1)),
		} {
			if lens.Lossless(people(), joining(ids[0], ids[1], x.sep), before) != x.want {
				t.Errorf("joining %v with %q is lossless for %v: %v", ids, x.sep, before, !x.want)
			}
		}
	}
}

// P7.4 and A4: joining two fields of which one is null, or both.
func TestLosslessJoinNull(t *testing.T) {
	for _, x := range []struct {
		before api.Row
		sep    string
		want   bool
	}{
		{api.Row{}, "-", true}, {row(text(7, "-"), number(18, 1)), "-", true},
		{row(text(4, "a")), "-", false}, {row(text(17, "a")), "-", false}, {row(text(4, "")), "-", false},
		{row(text(17, "")), "-", false},
		{row(text(4, "-")), "-", false}, {row(text(17, "-")), "-", false}, {row(text(4, "-a")), "-", false},
		{row(text(4, xs(198))), "--", false}, {row(text(4, xs(199))), "--", false}, {row(text(17, xs(200))), "--", false},
		// Nothing of the separator is left behind the first text.
		{row(text(4, xs(200))), "--", true}, {row(text(4, xs(198)+"--")), "--", false},
		{row(text(4, xs(199)+"-")), "--", true},
	} {
		if lens.Lossless(people(), joining(4, 17, x.sep), x.before) != x.want {
			t.Errorf("joining with %q is lossless for %v: %v", x.sep, x.before, !x.want)
		}
	}
}
