package pred_test

import (
	"math"
	"math/rand"
	"slices"
	"strings"

	"fenland/api"
)

var null = api.Value{Null: true}

func num(n int64) api.Value { return api.Value{N: n} }

func text(s string) api.Value { return api.Value{S: s} }

func cell(id int, v api.Value) api.Cell { return api.Cell{ID: id, V: v} }

func row(cells ...api.Cell) api.Row { return api.Row{Cells: cells} }

func between(id int, lo, hi int64) api.Pred {
	return api.Pred{Op: api.Between, ID: id, Lo: lo, Hi: hi}
}

func in(id int, set ...api.Value) api.Pred { return api.Pred{Op: api.In, ID: id, Set: set} }

func prefix(id int, s string) api.Pred { return api.Pred{Op: api.Prefix, ID: id, Text: s} }

func isNull(id int) api.Pred { return api.Pred{Op: api.IsNull, ID: id} }

func op(o int, kids ...api.Pred) api.Pred { return api.Pred{Op: o, Kids: kids} }

func and(kids ...api.Pred) api.Pred { return op(api.And, kids...) }

func or(kids ...api.Pred) api.Pred { return op(api.Or, kids...) }

func not(kids ...api.Pred) api.Pred { return op(api.Not, kids...) }

// yes, no and unknown have these truth values for all rows.
var (
	yes     = api.Pred{}
	no      = api.Pred{Op: api.Or}
	unknown = api.Pred{Op: 8}
)

// operators that are none, some of which are operators in fewer bits.
var otherOps = []int{8, 9, 255, 256, 257, 256 + api.Not, -1, -2, -256, 1 << 16, 1 << 32, math.MaxInt, math.MinInt}

// chain is n predicates with one operator, each of which is the only Kid of the one before it, around p.
func chain(o, n int, p api.Pred) api.Pred {
	for range n {
		p = op(o, p)
	}
	return p
}

// repeated is a list of n equal predicates.
func repeated(n int, p api.Pred) []api.Pred { return slices.Repeat([]api.Pred{p}, n) }

// numbers are n values, in increasing order from first on.
func numbers(n int, first int64) []api.Value {
	var l []api.Value
	for i := range n {
		l = append(l, num(first+int64(i)))
	}
	return l
}

func xs(n int) string { return strings.Repeat("x", n) }

// equal tells whether two predicates are equal, nil and empty slices being interchangeable.
func equal(a, b api.Pred) bool {
	return a.Op == b.Op && a.ID == b.ID && a.Lo == b.Lo && a.Hi == b.Hi && a.Text == b.Text &&
		slices.Equal(a.Set, b.Set) && slices.EqualFunc(a.Kids, b.Kids, equal)
}

// clone is a copy of p in new memory.
func clone(p api.Pred) api.Pred {
	p.Set = slices.Clone(p.Set)
	p.Kids = slices.Clone(p.Kids)
	for i, k := range p.Kids {
		p.Kids[i] = clone(k)
	}
	return p
}

// nodes are the predicates in p.
func nodes(p *api.Pred) []*api.Pred {
	l := []*api.Pred{p}
	for i := range p.Kids {
		l = append(l, nodes(&p.Kids[i])...)
	}
	return l
}

// pick returns any element.
func pick[T any](r *rand.Rand, l []T) T { return l[r.Intn(len(l))] }

var (
	someNumbers = []int64{-1, 0, 1, 2, 3, 5, 63, 64, -64, -65, math.MinInt64, math.MaxInt64}
	someTexts   = []string{"", "a", "ab", "abc", "b", "\x00", "a\x80", "\xff", "é"}
	someIDs     = []int{1, 2, 3, 4, 5, 6}
)

// anyValue is a value of which the parts are often equal to those of other ones.
func anyValue(r *rand.Rand) api.Value {
	v := api.Value{Null: r.Intn(5) == 0}
	if r.Intn(3) > 0 {
		v.N = pick(r, someNumbers[:6])
	}
	if r.Intn(3) > 0 {
		v.S = pick(r, someTexts[:5])
	}
	return v
}

// anyRow is a row with nulls, in any order, in which numbers may come twice.
func anyRow(r *rand.Rand) api.Row {
	var x api.Row
	for range r.Intn(7) {
		x.Cells = append(x.Cells, cell(pick(r, someIDs), anyValue(r)))
	}
	return x
}

// anyPred is any predicate, with a depth of at most room. It is often not well-formed.
func anyPred(r *rand.Rand, room int) api.Pred {
	p := wellFormed(r, room)
	if r.Intn(4) == 0 {
		p.Op = pick(r, []int{-1, 0, 1, 2, 3, 4, 5, 6, 7, 8, 9, 263})
	}
	if r.Intn(4) == 0 {
		p.ID, p.Lo, p.Hi = pick(r, someIDs), pick(r, someNumbers), pick(r, someNumbers)
		p.Set, p.Text = []api.Value{anyValue(r)}, pick(r, someTexts)
	}
	if room > 1 && r.Intn(2) == 0 {
		p.Kids = nil
		for range r.Intn(4) {
			p.Kids = append(p.Kids, anyPred(r, room-1))
		}
	}
	return p
}

// wellFormed is any well-formed predicate, with a depth of at most room.
func wellFormed(r *rand.Rand, room int) api.Pred {
	o := r.Intn(8)
	if room > 1 && r.Intn(3) == 0 {
		o = pick(r, []int{api.And, api.Or, api.Not})
	}
	id := pick(r, someIDs)
	switch o {
	case api.Between:
		return between(id, pick(r, someNumbers), pick(r, someNumbers))
	case api.In:
		p := in(id)
		for range r.Intn(5) {
			p.Set = append(p.Set, anyValue(r))
		}
		return p
	case api.Prefix:
		return prefix(id, pick(r, someTexts))
	case api.IsNull:
		return isNull(id)
	case api.And, api.Or:
		p := op(o)
		for range r.Intn(4) * min(1, room-1) {
			p.Kids = append(p.Kids, wellFormed(r, room-1))
		}
		return p
	case api.Not:
		if room > 1 {
			return not(wellFormed(r, room-1))
		}
	}
	return yes
}

// small are predicates with each operator, which are valid for the schema of typed.
func small() []api.Pred {
	return []api.Pred{
		yes, between(3, 0, 4), in(3, num(1)), prefix(4, "a"), isNull(3), and(), or(), and(yes), or(yes), not(yes),
	}
}

// broken are predicates that violate one of the conditions of well-formed ones, by what they violate, and are otherwise
// valid for the schema of typed. Their depth is at most 2.
func broken() map[string]api.Pred {
	m := map[string]api.Pred{
		"17 Kids of And":            and(repeated(17, yes)...),
		"17 Kids of Or":             or(repeated(17, yes)...),
		"100 Kids of And":           and(repeated(100, yes)...),
		"Not without Kids":          not(),
		"Not of two Kids":           not(yes, yes),
		"Not of 16 Kids":            not(repeated(16, yes)...),
		"Not of 17 Kids":            not(repeated(17, yes)...),
		"17 elements":               in(3, numbers(17, 0)...),
		"18 elements":               in(3, numbers(18, -9)...),
		"a prefix of 201 bytes":     prefix(4, xs(201)),
		"a prefix of 456 bytes":     prefix(4, xs(456)),
		"an element of 201 bytes":   in(4, text(xs(201))),
		"a first one of 201 bytes":  in(4, text(strings.Repeat("a", 201)), text("b")),
		"a last one of 201 bytes":   in(4, text("a"), text("b"), text(xs(201))),
		"a sixth one of 1000 bytes": in(4, text("a"), text("b"), text("c"), text("d"), text("e"), text(xs(1000)), text("y")),
	}
	for _, o := range otherOps {
		m["the operator "+name(o)] = op(o)
		m["the operator "+name(o)+" with a Kid"] = op(o, yes)
	}
	for _, p := range small() {
		for field, q := range overfull(p) {
			m[field+" of "+name(p.Op)+" with "+name(len(p.Kids))+" Kids"] = q
		}
	}
	return m
}

// overfull are copies of p in which one field that is not a field of the operator is not zero or not empty, by names.
func overfull(p api.Pred) map[string]api.Pred {
	m := map[string]api.Pred{}
	add := func(field string, value string, change func(q *api.Pred)) {
		if !slices.Contains(fieldsOf(p.Op), field) {
			q := clone(p)
			change(&q)
			m[field+" "+value] = q
		}
	}
	for _, n := range []int64{1, -1, 3, 256, 1 << 32, math.MinInt64} {
		add("ID", name(int(n)), func(q *api.Pred) { q.ID = int(n) })
		add("Lo", name(int(n)), func(q *api.Pred) { q.Lo = n })
		add("Hi", name(int(n)), func(q *api.Pred) { q.Hi = n })
	}
	add("Set", "of 1", func(q *api.Pred) { q.Set = numbers(1, 1) })
	add("Set", "of the zero value", func(q *api.Pred) { q.Set = []api.Value{{}} })
	add("Set", "of null", func(q *api.Pred) { q.Set = []api.Value{null} })
	add("Text", "a", func(q *api.Pred) { q.Text = "a" })
	add("Text", "of the byte 0", func(q *api.Pred) { q.Text = "\x00" })
	add("Kids", "True", func(q *api.Pred) { q.Kids = []api.Pred{yes} })
	add("Kids", "two", func(q *api.Pred) { q.Kids = []api.Pred{yes, no} })
	return m
}

// contexts are predicates of different forms that contain p, whose depth is by at most 4 greater.
func contexts(p api.Pred) []api.Pred {
	return []api.Pred{
		p, and(p), or(p), not(p), and(p, yes), and(yes, p), or(no, p, yes), not(not(p)),
		and(or(yes, not(or(isNull(3), p)), no)),
		and(append(repeated(15, yes), p)...), or(append([]api.Pred{p}, repeated(15, between(3, 0, 4))...)...),
		and(not(yes), and(yes, no), or(and(), p)),
	}
}
