package decide_test

import (
	"fmt"
	"math"
	"math/rand"
	"slices"
	"strconv"
	"strings"

	"fenland/api"
)

const (
	least    = math.MinInt64
	greatest = math.MaxInt64
)

// The fields of typed that have values.
const (
	aBool, aSmall, anInt, aText, aDay = api.Bool, api.Small, api.Int, api.Text, api.Day
	otherText, lastInt                = 9, 11
)

// typed is a schema in which the numbers of the first six fields are their types; two fields are inside of a group.
func typed() api.Schema {
	return api.Schema{Next: 12, Fields: []api.Field{
		{ID: aBool, Name: "bool", Type: api.Bool},
		{ID: aSmall, Name: "small", Type: api.Small},
		{ID: anInt, Name: "int", Type: api.Int},
		{ID: aText, Name: "text", Type: api.Text, Parent: api.Nest},
		{ID: aDay, Name: "day", Type: api.Day},
		{ID: api.Nest, Name: "nest", Type: api.Nest},
		{ID: otherText, Name: "other", Type: api.Text},
		{ID: lastInt, Name: "last", Type: api.Int, Parent: api.Nest},
	}}
}

// only is typed with some of its fields.
func only(ids ...int) api.Schema {
	s := typed()
	s.Fields = slices.DeleteFunc(s.Fields, func(f api.Field) bool {
		return f.ID != api.Nest && !slices.Contains(ids, f.ID)
	})
	return s
}

// bare is a schema without fields.
func bare() api.Schema { return api.Schema{Next: 1} }

// typeOf is the type of a field of typed.
func typeOf(id int) int {
	for _, f := range typed().Fields {
		if f.ID == id {
			return f.Type
		}
	}
	return 0
}

var null = api.Value{Null: true}

func num(n int64) api.Value { return api.Value{N: n} }

func text(s string) api.Value { return api.Value{S: s} }

func cell(id int, v api.Value) api.Cell { return api.Cell{ID: id, V: v} }

func row(cells ...api.Cell) api.Row { return api.Row{Cells: cells} }

func between(id int, lo, hi int64) api.Pred {
	return api.Pred{Op: api.Between, ID: id, Lo: lo, Hi: hi}
}

func in(id int, set ...api.Value) api.Pred { return api.Pred{Op: api.In, ID: id, Set: set} }

// inNums and inTexts are In of different elements, which are given in any order.
func inNums(id int, l ...int64) api.Pred {
	p := in(id)
	for _, n := range slices.Sorted(slices.Values(l)) {
		p.Set = append(p.Set, num(n))
	}
	return p
}

func inTexts(id int, l ...string) api.Pred {
	p := in(id)
	for _, s := range slices.Sorted(slices.Values(l)) {
		p.Set = append(p.Set, text(s))
	}
	return p
}

func prefix(id int, s string) api.Pred { return api.Pred{Op: api.Prefix, ID: id, Text: s} }

func isNull(id int) api.Pred { return api.Pred{Op: api.IsNull, ID: id} }

func and(kids ...api.Pred) api.Pred { return api.Pred{Op: api.And, Kids: kids} }

func or(kids ...api.Pred) api.Pred { return api.Pred{Op: api.Or, Kids: kids} }

func not(p api.Pred) api.Pred { return api.Pred{Op: api.Not, Kids: []api.Pred{p}} }

// yes and no have these truth values for all rows.
var (
	yes = api.Pred{}
	no  = or()
)

func xs(n int) string { return strings.Repeat("x", n) }

// repeated is a list of n equal predicates.
func repeated(n int, p api.Pred) []api.Pred { return slices.Repeat([]api.Pred{p}, n) }

// counted is a list of n simple predicates on numbers, each of which is another one, and no two of which overlap.
func counted(n int, id int) []api.Pred {
	var l []api.Pred
	for i := range int64(n) {
		l = append(l, between(id, 10*i, 10*i+5))
	}
	return l
}

// joined is an And or an Or of all predicates of a list, in order. It has as many levels as it needs.
func joined(op int, l []api.Pred) api.Pred {
	for len(l) > api.MaxKids {
		var groups []api.Pred
		for group := range slices.Chunk(l, api.MaxKids) {
			groups = append(groups, api.Pred{Op: op, Kids: group})
		}
		l = groups
	}
	return api.Pred{Op: op, Kids: l}
}

// deep is p inside of n others, with the same truth value.
func deep(n int, p api.Pred) api.Pred {
	for i := range n {
		p = api.Pred{Op: []int{api.And, api.Or}[i%2], Kids: []api.Pred{p}}
	}
	return p
}

// equal tells whether two predicates are equal, nil and empty slices being interchangeable.
func equal(a, b api.Pred) bool {
	return a.Op == b.Op && a.ID == b.ID && a.Lo == b.Lo && a.Hi == b.Hi && a.Text == b.Text &&
		slices.Equal(a.Set, b.Set) && slices.EqualFunc(a.Kids, b.Kids, equal)
}

// equalTerms tells whether two lists have the same terms in the same order.
func equalTerms(a, b [][]api.Pred) bool {
	return slices.EqualFunc(a, b, func(a, b []api.Pred) bool { return slices.EqualFunc(a, b, equal) })
}

// show is a short notation of a predicate, of which only the beginning counts.
func show(p api.Pred) string {
	const most = 300
	id := strconv.Itoa(p.ID)
	s := []string{"true", id + " between", id + " in", id + " prefix", id + " null", "and", "or", "not"}[p.Op&7]
	switch p.Op {
	case api.Between:
		s += fmt.Sprintf(" %d..%d", p.Lo, p.Hi)
	case api.In:
		s += fmt.Sprintf(" %v", p.Set)
	case api.Prefix:
		s += fmt.Sprintf(" %q", p.Text)
	case api.And, api.Or, api.Not:
		s += showAll(p.Kids)
	case api.True, api.IsNull:
	default:
		s = fmt.Sprintf("%+v", p)
	}
	return s[:min(len(s), most)]
}

func showAll(l []api.Pred) string {
	var parts []string
	for _, p := range l[:min(len(l), 20)] {
		parts = append(parts, show(p))
	}
	return "(" + strings.Join(parts, ", ") + ")"
}

func showTerms(l [][]api.Pred) string {
	s := strconv.Itoa(len(l)) + " terms:"
	for _, t := range l[:min(len(l), 20)] {
		s += " " + showAll(t)
	}
	return s
}

// clone is a copy of p in new memory.
func clone(p api.Pred) api.Pred {
	p.Set = slices.Clone(p.Set)
	p.Kids = slices.Clone(p.Kids)
	for i, k := range p.Kids {
		p.Kids[i] = clone(k)
	}
	return p
}

// nodes are the predicates in p.
func nodes(p api.Pred) []api.Pred {
	l := []api.Pred{p}
	for _, k := range p.Kids {
		l = append(l, nodes(k)...)
	}
	return l
}

// pick returns any element.
func pick[T any](r *rand.Rand, l []T) T { return l[r.Intn(len(l))] }

// some returns at least one and at most n of the elements, each of them once.
func some[T any](r *rand.Rand, l []T, n int) []T {
	l = slices.Clone(l)
	r.Shuffle(len(l), func(i, k int) { l[i], l[k] = l[k], l[i] })
	return l[:1+r.Intn(min(n, len(l)))]
}

var (
	someTexts = []string{"", "a", "ab", "abc", "b", "\x00", "a\x00", "a\xff", "\xff", "é"}
	ends      = map[int][]int64{
		api.Bool:  {0, 1},
		api.Small: {math.MinInt32, math.MaxInt32, 0, 1, 2, 3, 4, 5},
		api.Int:   {least, greatest, 0, 1, 2, 3, 4, 5},
		api.Day:   {-1000000, 1000000, 0, 1, 2, 3, 4, 5},
	}
)

// simple is any simple predicate about a field of typed.
func simple(r *rand.Rand, id int) api.Pred {
	if r.Intn(6) == 0 {
		return isNull(id)
	}
	if typeOf(id) == api.Text {
		if r.Intn(2) == 0 {
			return prefix(id, pick(r, someTexts))
		}
		return inTexts(id, some(r, someTexts, 4)...)
	}
	numbers := ends[typeOf(id)]
	if r.Intn(2) == 0 {
		return inNums(id, some(r, numbers, 4)...)
	}
	lo, hi := pick(r, numbers), pick(r, numbers)
	if lo > hi && r.Intn(5) > 0 {
		lo, hi = hi, lo
	}
	return between(id, lo, hi)
}

// anyPred is any valid predicate about fields of typed, with a depth of at most room.
func anyPred(r *rand.Rand, room int, ids ...int) api.Pred {
	return anyOf(r, room, func() api.Pred { return simple(r, pick(r, ids)) })
}

// anyOf is any predicate made of simple ones.
func anyOf(r *rand.Rand, room int, simple func() api.Pred) api.Pred {
	n := r.Intn(20)
	switch {
	case n == 0:
		return yes
	case room == 1 || n < 6:
		return simple()
	case n < 11:
		return not(anyOf(r, room-1, simple))
	}
	p := api.Pred{Op: pick(r, []int{api.And, api.Or})}
	for range pick(r, []int{0, 1, 2, 2, 2, 3, 3, 3}) {
		p.Kids = append(p.Kids, anyOf(r, room-1, simple))
	}
	return p
}

// anyIDs are some fields of typed that have values.
func anyIDs(r *rand.Rand, n int) []int {
	return some(r, []int{aBool, aSmall, anInt, aText, aDay, otherText, lastInt}, n)
}
