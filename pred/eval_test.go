package pred_test

import (
	"math"
	"math/rand"
	"slices"
	"strings"
	"testing"

	"fenland/api"
	"fenland/pred"
)

// evaluates checks Eval and Match.
func evaluates(t *testing.T, p api.Pred, r api.Row, want int) {
	t.Helper()
	if got := pred.Eval(p, r); got != want {
		t.Errorf("Eval(%+v, %+v) = %d instead of %d", p, r, got, want)
	}
	if got := pred.Match(p, r); got != (want == api.Yes) {
		t.Errorf("Match(%+v, %+v) = %v", p, r, got)
	}
}

// P8.1, E1: the examples of the chapter.
func TestEvalExamples(t *testing.T) {
	r := row(cell(1, num(5)), cell(2, text("ab")))
	evaluates(t, between(1, 0, 4), r, api.No)
	evaluates(t, between(1, 5, 5), r, api.Yes)
	evaluates(t, between(3, 0, 9), r, api.Unknown)
	evaluates(t, in(2, text("ab")), r, api.Yes)
	evaluates(t, prefix(2, "a"), r, api.Yes)
	evaluates(t, isNull(3), r, api.Yes)
	evaluates(t, not(isNull(3)), r, api.No)
	evaluates(t, and(between(3, 0, 9), between(1, 0, 4)), r, api.No)
	evaluates(t, or(between(3, 0, 9), between(1, 0, 4)), r, api.Unknown)
	evaluates(t, and(), r, api.Yes)
	evaluates(t, or(), r, api.No)
}

// P8.1, E1: both bounds, whichever is the greater one, and the least and the greatest number.
func TestBetween(t *testing.T) {
	const least, greatest = math.MinInt64, math.MaxInt64
	for _, c := range []struct {
		n, lo, hi int64
		want      int
	}{
		{5, 0, 4, api.No}, {5, 0, 5, api.Yes}, {5, 0, 6, api.Yes}, {5, 4, 9, api.Yes}, {5, 5, 9, api.Yes},
		{5, 6, 9, api.No}, {5, 5, 5, api.Yes}, {5, 4, 4, api.No}, {5, 6, 6, api.No}, {5, 9, 0, api.No}, {5, 6, 4, api.No},
		{5, 6, 5, api.No}, {5, 5, 4, api.No}, {0, 0, 0, api.Yes}, {-1, 0, 0, api.No}, {-5, -6, -4, api.Yes},
		{-5, -4, -6, api.No}, {least, least, greatest, api.Yes}, {greatest, least, greatest, api.Yes},
		{least, least, least, api.Yes}, {greatest, greatest, greatest, api.Yes}, {0, greatest, least, api.No},
		{least, greatest, least, api.No}, {least, least + 1, greatest, api.No}, {greatest, least, greatest - 1, api.No},
		{1 << 32, 0, 5, api.No}, {least, 0, greatest, api.No}, {greatest, least, 0, api.No},
	} {
		evaluates(t, between(1, c.lo, c.hi), row(cell(1, num(c.n))), c.want)
		evaluates(t, between(1, c.lo, c.hi), row(cell(1, api.Value{N: c.n, S: "a"})), c.want)
	}
	evaluates(t, between(1, 0, 0), row(cell(1, text("ab"))), api.Yes)
	evaluates(t, between(1, 1, 2), row(cell(1, text("ab"))), api.No)
}

// P8.1, E1: elements that are equal, that differ in N or in S only, and nulls; in any order and more than once; any
// number of them.
func TestIn(t *testing.T) {
	five, ab, both := num(5), text("ab"), api.Value{N: 5, S: "ab"}
	nullBoth := api.Value{Null: true, N: 5, S: "ab"}
	for _, c := range []struct {
		v    api.Value
		set  []api.Value
		want int
	}{
		{five, nil, api.No}, {five, []api.Value{}, api.No}, {five, []api.Value{five}, api.Yes},
		{five, []api.Value{num(4)}, api.No}, {five, []api.Value{num(6)}, api.No}, {five, []api.Value{num(-5)}, api.No},
		{five, []api.Value{num(5 + 1<<32)}, api.No}, {five, []api.Value{num(4), num(6)}, api.No},
		{five, []api.Value{num(4), five, num(6)}, api.Yes}, {five, []api.Value{num(9), num(7), five}, api.Yes},
		{five, []api.Value{five, num(4), num(3)}, api.Yes}, {five, []api.Value{num(6), num(6), five, five}, api.Yes},
		{five, []api.Value{both}, api.No}, {ab, []api.Value{both}, api.No}, {both, []api.Value{both}, api.Yes},
		{both, []api.Value{five}, api.No}, {both, []api.Value{ab}, api.No}, {both, []api.Value{five, ab}, api.No},
		{five, []api.Value{{N: 5, S: "\x00"}}, api.No}, {five, []api.Value{ab}, api.No}, {ab, []api.Value{ab}, api.Yes},
		{ab, []api.Value{text("a")}, api.No}, {ab, []api.Value{text("abc")}, api.No}, {ab, []api.Value{text("AB")}, api.No},
		{ab, []api.Value{{}}, api.No}, {api.Value{}, []api.Value{{}}, api.Yes}, {api.Value{}, []api.Value{null}, api.No},
		{five, []api.Value{{Null: true, N: 5}}, api.No}, {ab, []api.Value{{Null: true, S: "ab"}}, api.No},
		{both, []api.Value{nullBoth}, api.No}, {both, []api.Value{nullBoth, both}, api.Yes},
		{both, []api.Value{both, nullBoth}, api.Yes}, {five, numbers(16, -10), api.Yes}, {five, numbers(17, -11), api.Yes},
		{five, numbers(300, -290), api.Yes}, {five, numbers(16, -11), api.No},
		{text(xs(300)), []api.Value{text(xs(299)), text(xs(300))}, api.Yes},
	} {
		evaluates(t, in(1, c.set...), row(cell(1, c.v)), c.want)
	}
}

// P8.1, E1: texts that are empty, equal, shorter and longer, byte by byte.
func TestPrefix(t *testing.T) {
	for _, c := range []struct {
		s, text string
		want    int
	}{
		{"ab", "", api.Yes}, {"ab", "a", api.Yes}, {"ab", "ab", api.Yes}, {"ab", "abc", api.No}, {"ab", "b", api.No},
		{"ab", "aa", api.No}, {"ab", "ac", api.No}, {"ab", "A", api.No}, {"ab", "ab\x00", api.No}, {"", "", api.Yes},
		{"", "a", api.No}, {"", "\x00", api.No}, {"\x00", "\x00", api.Yes}, {"é", "\xc3", api.Yes}, {"é", "\xa9", api.No},
		{"\xc3", "é", api.No}, {"\xff\xfe", "\xff", api.Yes}, {"\xff\xfe", "\xfe", api.No}, {"aab", "ab", api.No},
		{"a b", "a ", api.Yes}, {xs(300), xs(201), api.Yes}, {xs(300), xs(300), api.Yes}, {xs(300), xs(301), api.No},
		{xs(200) + "a", xs(200) + "b", api.No},
	} {
		evaluates(t, prefix(1, c.text), row(cell(1, text(c.s))), c.want)
		evaluates(t, prefix(1, c.text), row(cell(1, api.Value{N: 7, S: c.s})), c.want)
	}
	evaluates(t, prefix(1, ""), row(cell(1, num(5))), api.Yes)
	evaluates(t, prefix(1, "5"), row(cell(1, num(5))), api.No)
}

// P8.1, E1: values that are missing, null, or null with N and S set, for operators that would be Yes or No.
func TestNulls(t *testing.T) {
	rows := []api.Row{{}, {Cells: []api.Cell{}}, row(cell(2, num(5))), row(cell(-1, num(5))),
		row(cell(0, num(5)), cell(2, num(5)))}
	for _, v := range []api.Value{null, {Null: true, N: 5}, {Null: true, S: "ab"}, {Null: true, N: 5, S: "ab"}} {
		rows = append(rows, row(cell(1, v)), row(cell(0, num(5)), cell(1, v), cell(2, num(5))))
	}
	for _, r := range rows {
		for _, p := range []api.Pred{
			between(1, 0, 9), between(1, 5, 5), between(1, 0, 4), between(1, 9, 0), between(1, math.MinInt64, math.MaxInt64),
			in(1), in(1, num(5)), in(1, null), in(1, api.Value{}), in(1, api.Value{Null: true, N: 5, S: "ab"}),
			prefix(1, ""), prefix(1, "a"), prefix(1, "abc"),
		} {
			evaluates(t, p, r, api.Unknown)
		}
		evaluates(t, isNull(1), r, api.Yes)
		evaluates(t, not(isNull(1)), r, api.No)
	}
	for _, v := range []api.Value{{}, num(5), text("ab"), {N: 5, S: "ab"}} {
		evaluates(t, isNull(1), row(cell(1, v)), api.No)
		evaluates(t, isNull(1), row(cell(2, null), cell(1, v)), api.No)
	}
}

// P8.1, E1: the first of two cells with one number counts, also where it is null, and rows need no order.
func TestCells(t *testing.T) {
	is5 := between(1, 5, 5)
	for _, c := range []struct {
		r    api.Row
		want int
	}{
		{row(cell(1, num(5)), cell(1, num(6))), api.Yes}, {row(cell(1, num(6)), cell(1, num(5))), api.No},
		{row(cell(1, null), cell(1, num(5))), api.Unknown}, {row(cell(1, num(5)), cell(1, null)), api.Yes},
		{row(cell(1, num(6)), cell(1, num(5)), cell(1, num(5))), api.No},
		{row(cell(2, num(9)), cell(1, num(5)), cell(2, num(6)), cell(1, num(6))), api.Yes},
		{row(cell(3, num(6)), cell(2, num(6)), cell(1, num(5))), api.Yes},
		{row(cell(1, num(5)), cell(3, num(6)), cell(2, num(6))), api.Yes},
		{row(cell(9, num(6)), cell(8, num(6)), cell(1, num(5)), cell(7, num(6)), cell(0, num(6))), api.Yes},
		{row(cell(-1, num(5)), cell(0, num(5)), cell(2, num(5)), cell(257, num(5)), cell(1<<32+1, num(5))), api.Unknown},
	} {
		evaluates(t, is5, c.r, c.want)
		evaluates(t, in(1, num(5)), c.r, c.want)
		evaluates(t, or(prefix(1, "a"), is5), c.r, c.want)
		evaluates(t, isNull(1), c.r, []int{api.No, api.No, api.Yes}[c.want])
	}
	for _, id := range []int{0, -1, math.MinInt, math.MaxInt, 1 << 32} {
		evaluates(t, between(id, 5, 5), row(cell(1, num(6)), cell(id, num(5))), api.Yes)
		evaluates(t, in(id, num(5)), row(cell(1, num(6)), cell(id, num(6))), api.No)
		evaluates(t, prefix(id, "a"), row(cell(1, num(6)), cell(id, text("a"))), api.Yes)
		evaluates(t, isNull(id), row(cell(1, num(6)), cell(id, text("a"))), api.No)
		evaluates(t, isNull(id), row(cell(1, num(6))), api.Yes)
	}
}

// P8.1, E1: And and Or of none, one, two and three Kids with each combination of the three values, and Not of none, one
// and two Kids. The letters are the values of the Kids and the result.
func TestConnectives(t *testing.T) {
	kids := map[byte]api.Pred{'y': yes, 'n': no, 'u': unknown}
	values := map[byte]int{'y': api.Yes, 'n': api.No, 'u': api.Unknown}
	check := func(o int, table string) {
		for _, c := range strings.Fields(table) {
			p := op(o)
			last := len(c) - 1
			for i := range last {
				p.Kids = append(p.Kids, kids[c[i]])
			}
			evaluates(t, p, api.Row{}, values[c[last]])
		}
	}
	check(api.And, `y yy nn uu
		yyy ynn yuu nyn nnn nun uyu unn uuu
		yyyy yynn yyuu ynyn ynnn ynun yuyu yunn yuuu nyyn nynn nyun nnyn nnnn nnun nuyn nunn nuun
		uyyu uynn uyuu unyn unnn unun uuyu uunn uuuu`)
	check(api.Or, `n yy nn uu
		yyy yny yuy nyy nnn nuu uyy unu uuu
		yyyy yyny yyuy ynyy ynny ynuy yuyy yuny yuuy nyyy nyny nyuy nnyy nnnn nnuu nuyy nunu nuuu
		uyyy uyny uyuy unyy unnu unuu uuyy uunu uuuu`)
	check(api.Not, `u yn ny uu yyu nnu ynu nyu uuu yuu uyu nuu unu yyyu nnnu`)
}

// P8.1, E1: as many Kids as there may be, and more: the last one counts as the first one does.
func TestManyKids(t *testing.T) {
	for _, n := range []int{1, 2, 15, 16, 17, 100, 100000} {
		evaluates(t, and(repeated(n, yes)...), api.Row{}, api.Yes)
		evaluates(t, or(repeated(n, no)...), api.Row{}, api.No)
		for _, at := range []int{0, n / 2, n - 1} {
			one := func(others, p api.Pred) []api.Pred {
				l := repeated(n, others)
				l[at] = p
				return l
			}
			evaluates(t, and(one(yes, no)...), api.Row{}, api.No)
			evaluates(t, and(one(yes, unknown)...), api.Row{}, api.Unknown)
			evaluates(t, or(one(no, yes)...), api.Row{}, api.Yes)
			evaluates(t, or(one(no, unknown)...), api.Row{}, api.Unknown)
			if n > 1 {
				evaluates(t, and(one(unknown, no)...), api.Row{}, api.No)
				evaluates(t, or(one(unknown, yes)...), api.Row{}, api.Yes)
			}
		}
	}
}

// P8.1, E1: operators beyond the eight are Unknown, whatever else the predicate has, and so is what depends on them.
func TestOtherOperators(t *testing.T) {
	for _, o := range otherOps {
		for _, r := range []api.Row{{}, row(cell(0, num(0))), row(cell(1, num(5)))} {
			for _, kids := range [][]api.Pred{nil, {yes}, {no}, {unknown}, {yes, yes}, {no, no}} {
				full := api.Pred{Op: o, ID: 1, Lo: 5, Hi: 5, Set: numbers(3, 4), Kids: kids}
				for _, p := range []api.Pred{op(o, kids...), full} {
					evaluates(t, p, r, api.Unknown)
					evaluates(t, not(p), r, api.Unknown)
					evaluates(t, and(yes, p), r, api.Unknown)
					evaluates(t, or(p, no), r, api.Unknown)
					evaluates(t, and(p, no), r, api.No)
					evaluates(t, or(yes, p), r, api.Yes)
				}
			}
		}
	}
}

// P8.1, E1: what are not fields of the operator does not count.
func TestOtherFields(t *testing.T) {
	r := row(cell(1, num(5)), cell(2, text("ab")))
	for _, p := range []api.Pred{
		yes, between(1, 0, 9), between(1, 0, 4), in(1, num(5)), in(1), in(7), prefix(2, "a"), prefix(2, "b"),
		isNull(1), isNull(3), and(), or(), and(yes, unknown), or(no, yes), not(yes), not(unknown), not(),
	} {
		for _, q := range overfull(p) {
			evaluates(t, q, r, wantEval(p, r))
		}
	}
	evaluates(t, api.Pred{Op: api.True, ID: 3, Kids: []api.Pred{no}}, r, api.Yes)
	full := api.Pred{Op: api.Between, ID: 1, Lo: 5, Hi: 5, Set: numbers(1, 9), Text: "z", Kids: []api.Pred{no}}
	evaluates(t, full, r, api.Yes)
	evaluates(t, api.Pred{Op: api.And, ID: 3, Lo: 9, Text: "z", Kids: []api.Pred{yes}}, r, api.Yes)
}

// P8.1, E1: predicates deeper than valid ones.
func TestDeepPredicates(t *testing.T) {
	for _, n := range []int{6, 7, 8, 9, 15, 16, 17, 100, 1001} {
		for _, p := range []api.Pred{yes, no, unknown, between(1, 5, 5), between(1, 6, 6), isNull(1), prefix(2, "")} {
			r := row(cell(1, num(5)))
			want := wantEval(p, r)
			evaluates(t, chain(api.And, n, p), r, want)
			evaluates(t, chain(api.Or, n, p), r, want)
			evaluates(t, chain(8, n, p), r, api.Unknown)
			if n%2 == 1 {
				want = wantEval(not(p), r)
			}
			evaluates(t, chain(api.Not, n, p), r, want)
		}
	}
}

// P8.1, E1: any predicates and rows, which need not be valid.
func TestEvalAny(t *testing.T) {
	r := rand.New(rand.NewSource(1))
	found := map[[2]int]int{}
	for range 30000 {
		p, x := anyPred(r, 1+r.Intn(5)), anyRow(r)
		want := wantEval(p, x)
		evaluates(t, p, x, want)
		found[[2]int{p.Op, want}]++
	}
	for o := api.Between; o <= api.Not; o++ {
		for _, v := range order {
			if n := found[[2]int{o, v}]; n < 50 && (o != api.IsNull || v != api.Unknown) {
				t.Errorf("the operator %d is %d only %d times", o, v, n)
			}
		}
	}
}

// fields checks Fields and Size.
func fields(t *testing.T, p api.Pred, size int, want ...int) {
	t.Helper()
	if got := pred.Fields(p); !slices.Equal(got, want) {
		t.Errorf("Fields(%+v) = %v instead of %v", p, got, want)
	}
	if got := pred.Size(p); got != size {
		t.Errorf("Size(%+v) = %d instead of %d", p, got, size)
	}
}

// P8.1, E2: the examples, each operator, numbers in any order and more than once, and numbers that no field has.
func TestFieldsAndSize(t *testing.T) {
	fields(t, or(isNull(2), between(1, 0, 4), isNull(2)), 4, 1, 2)
	fields(t, yes, 1)
	fields(t, between(7, 0, 4), 1, 7)
	fields(t, in(7, num(1), num(2)), 1, 7)
	fields(t, in(7), 1, 7)
	fields(t, prefix(7, "ab"), 1, 7)
	fields(t, isNull(7), 1, 7)
	fields(t, and(), 1)
	fields(t, or(), 1)
	fields(t, not(), 1)
	fields(t, not(isNull(7)), 2, 7)
	fields(t, between(0, 0, 4), 1, 0)
	fields(t, and(isNull(0), yes), 3, 0)
	fields(t, and(isNull(math.MaxInt), isNull(-1), isNull(0), isNull(math.MinInt), isNull(1)), 6,
		math.MinInt, -1, 0, 1, math.MaxInt)
	fields(t, and(isNull(1), isNull(2), isNull(3), isNull(4)), 5, 1, 2, 3, 4)
	fields(t, and(isNull(4), in(3), prefix(2, ""), between(1, 0, 0)), 5, 1, 2, 3, 4)
	fields(t, and(isNull(1), isNull(2), isNull(1), isNull(2), in(1), in(2)), 7, 1, 2)
	fields(t, and(isNull(5), isNull(5), isNull(5)), 4, 5)
	fields(t, and(isNull(1), isNull(257), isNull(1<<32+1)), 4, 1, 257, 1<<32+1)
	fields(t, or(and(isNull(9), not(in(3))), not(or(prefix(6, ""), and(), between(3, 0, 0)))), 10, 3, 6, 9)
	fields(t, and(yes, yes, no, not(yes)), 6)
	fields(t, or(repeated(100000, isNull(1))...), 100001, 1)
}

// P8.1, E2: the ID of an operator that has none does not count, but Kids count for all operators.
func TestFieldsOfOtherOperators(t *testing.T) {
	for _, o := range append([]int{api.True, api.And, api.Or, api.Not}, otherOps...) {
		fields(t, api.Pred{Op: o, ID: 7}, 1)
		fields(t, api.Pred{Op: o, ID: 7, Kids: []api.Pred{isNull(3), {Op: o, ID: 8, Kids: []api.Pred{in(2)}}}}, 4, 2, 3)
		fields(t, not(api.Pred{Op: o, ID: 7, Kids: []api.Pred{isNull(9)}}, isNull(1)), 4, 1, 9)
	}
	for o := api.Between; o <= api.IsNull; o++ {
		inner := api.Pred{Op: o, ID: 5, Kids: []api.Pred{in(2)}}
		fields(t, api.Pred{Op: o, ID: 7, Kids: []api.Pred{isNull(3), yes, inner}}, 5, 2, 3, 5, 7)
	}
	fields(t, and(not(), not(isNull(1), isNull(2), yes)), 6, 1, 2)
}

// P8.1, E2: predicates at all depths count.
func TestFieldsOfDeepPredicates(t *testing.T) {
	for n := range 40 {
		for _, o := range []int{api.And, api.Or, api.Not, api.True, api.IsNull, 8, -1} {
			p := and(chain(o, n, isNull(5)), isNull(3), chain(api.Not, n, or(isNull(7), isNull(3))))
			want := []int{3, 5, 7}
			if o == api.IsNull && n > 0 {
				want = []int{0, 3, 5, 7}
			}
			fields(t, p, 2*n+6, want...)
		}
	}
}

// P8.1, E2: any predicates.
func TestFieldsAny(t *testing.T) {
	r := rand.New(rand.NewSource(2))
	for range 10000 {
		p := anyPred(r, 1+r.Intn(6))
		fields(t, p, wantSize(p), wantFields(p)...)
	}
}
