package pred_test

import (
	"math"
	"math/rand"
	"slices"
	"testing"

	"fenland/api"
	"fenland/pred"
	"fenland/schema"
)

// typed is a valid schema in which the numbers of the first six fields are their types.
func typed() api.Schema {
	return api.Schema{Next: 12, Fields: []api.Field{
		{ID: api.Bool, Name: "bool", Type: api.Bool},
		{ID: api.Small, Name: "small", Type: api.Small},
		{ID: api.Int, Name: "int", Type: api.Int},
		{ID: api.Text, Name: "text", Type: api.Text, Parent: api.Nest},
		{ID: api.Day, Name: "day", Type: api.Day},
		{ID: api.Nest, Name: "nest", Type: api.Nest},
		{ID: 9, Name: "other", Type: api.Text},
		{ID: 11, Name: "last", Type: api.Int, Parent: api.Nest},
	}}
}

// valid checks Valid.
func valid(t *testing.T, s api.Schema, p api.Pred, want bool) {
	t.Helper()
	if got := pred.Valid(s, p); got != want {
		t.Errorf("Valid(%+v, %+v) = %v", s, p, got)
	}
}

// P8.1, E3: fields of each type and numbers of no field, for each operator.
func TestValidTypes(t *testing.T) {
	if !schema.Valid(typed()) {
		t.Fatal("the schema is not valid")
	}
	for _, c := range []struct {
		id                              int
		between, prefix, isNull, number bool
	}{
		{api.Bool, true, false, true, true}, {api.Small, true, false, true, true}, {api.Int, true, false, true, true},
		{api.Text, false, true, true, false}, {api.Day, true, false, true, true}, {api.Nest, false, false, false, false},
		{9, false, true, true, false}, {11, true, false, true, true}, {0, false, false, false, false},
		{7, false, false, false, false}, {8, false, false, false, false}, {10, false, false, false, false},
		{12, false, false, false, false}, {-1, false, false, false, false}, {-3, false, false, false, false},
		{259, false, false, false, false}, {1<<32 + 3, false, false, false, false},
		{math.MinInt, false, false, false, false}, {math.MaxInt, false, false, false, false},
	} {
		for _, context := range contexts(isNull(c.id)) {
			valid(t, typed(), context, c.isNull)
		}
		for _, p := range []api.Pred{
			between(c.id, 0, 1), between(c.id, 1, 0), between(c.id, 0, 0), between(c.id, math.MinInt64, math.MaxInt64),
		} {
			for _, context := range contexts(p) {
				valid(t, typed(), context, c.between)
			}
		}
		for _, p := range []api.Pred{prefix(c.id, ""), prefix(c.id, "a"), prefix(c.id, "\xff"), prefix(c.id, xs(200))} {
			for _, context := range contexts(p) {
				valid(t, typed(), context, c.prefix)
			}
		}
		for _, p := range []api.Pred{in(c.id, num(1)), in(c.id, num(0), num(1))} {
			for _, context := range contexts(p) {
				valid(t, typed(), context, c.number)
			}
		}
		for _, context := range contexts(in(c.id, text("a"), text("b"))) {
			valid(t, typed(), context, c.prefix)
		}
	}
}

// P8.1, E3: sets without elements, with nulls, with equal and decreasing elements, and with elements that are not valid
// for the type.
func TestValidSets(t *testing.T) {
	const least, greatest = math.MinInt64, math.MaxInt64
	for _, c := range []struct {
		id   int
		set  []api.Value
		want bool
	}{
		{api.Int, nil, false}, {api.Int, []api.Value{}, false}, {api.Text, nil, false},
		{api.Int, []api.Value{num(5)}, true}, {api.Int, []api.Value{num(0)}, true},
		{api.Int, []api.Value{num(4), num(5)}, true}, {api.Int, []api.Value{num(5), num(5)}, false},
		{api.Int, []api.Value{num(5), num(4)}, false}, {api.Int, []api.Value{num(1), num(3), num(3)}, false},
		{api.Int, []api.Value{num(1), num(1), num(3)}, false}, {api.Int, []api.Value{num(1), num(3), num(2)}, false},
		{api.Int, []api.Value{num(3), num(1), num(2)}, false}, {api.Int, []api.Value{num(1), num(3), num(1)}, false},
		{api.Int, []api.Value{num(least), num(-1), num(0), num(greatest)}, true},
		{api.Int, []api.Value{num(greatest), num(least)}, false}, {api.Int, []api.Value{num(0), num(-1)}, false},
		{api.Int, []api.Value{null}, false}, {api.Int, []api.Value{null, num(1)}, false},
		{api.Int, []api.Value{num(1), null}, false}, {api.Int, []api.Value{num(1), {Null: true, N: 2}}, false},
		{api.Int, []api.Value{{Null: true, N: 1}}, false}, {api.Int, []api.Value{text("a")}, false},
		{api.Int, []api.Value{{N: 1, S: "a"}}, false}, {api.Int, []api.Value{num(1), {N: 1, S: "a"}}, false},
		{api.Int, []api.Value{num(1), {N: 2, S: "a"}}, false},
		{api.Int, []api.Value{num(1), {N: 2, S: "a"}, num(3)}, false}, {api.Int, numbers(15, -7), true},
		{api.Int, numbers(16, -7), true}, {api.Int, numbers(17, -7), false}, {api.Bool, []api.Value{num(0)}, true},
		{api.Bool, []api.Value{num(1)}, true}, {api.Bool, []api.Value{num(0), num(1)}, true},
		{api.Bool, []api.Value{num(1), num(0)}, false}, {api.Bool, []api.Value{num(2)}, false},
		{api.Bool, []api.Value{num(-1), num(0)}, false}, {api.Bool, []api.Value{num(0), num(1), num(2)}, false},
		{api.Small, []api.Value{num(-1 << 31), num(1<<31 - 1)}, true}, {api.Small, []api.Value{num(1 << 31)}, false},
		{api.Small, []api.Value{num(-1<<31 - 1), num(0)}, false}, {api.Day, []api.Value{num(-1000000), num(1000000)}, true},
		{api.Day, []api.Value{num(1000001)}, false}, {api.Day, []api.Value{num(-1000001)}, false},
		{api.Day, []api.Value{null}, false}, {api.Text, []api.Value{text("")}, true},
		{api.Text, []api.Value{text(""), text("\x00")}, true},
		{api.Text, []api.Value{text("a"), text("ab"), text("b")}, true},
		{api.Text, []api.Value{text("ab"), text("a")}, false}, {api.Text, []api.Value{text("a"), text("a")}, false},
		{api.Text, []api.Value{text("b"), text("aa")}, false}, {api.Text, []api.Value{text("b"), text("aaa")}, false},
		{api.Text, []api.Value{text("aaa"), text("b")}, true},
		{api.Text, []api.Value{text("\x7f"), text("\x80"), text("\xff")}, true},
		{api.Text, []api.Value{text("\x80"), text("\x7f")}, false}, {api.Text, []api.Value{text(""), text("")}, false},
		{api.Text, []api.Value{null}, false}, {api.Text, []api.Value{null, text("a")}, false},
		{api.Text, []api.Value{text("a"), {Null: true, S: "b"}}, false}, {api.Text, []api.Value{num(1)}, false},
		{api.Text, []api.Value{{N: 1, S: "a"}}, false}, {api.Text, []api.Value{text("b"), {N: 1, S: "a"}}, false},
		{api.Text, []api.Value{text(xs(200))}, true}, {api.Text, []api.Value{text(xs(201))}, false},
		{api.Text, []api.Value{text(xs(199)), text(xs(200))}, true},
		{api.Text, []api.Value{text(xs(200)), text(xs(201))}, false}, {api.Nest, []api.Value{num(1)}, false},
		{api.Nest, []api.Value{null}, false}, {api.Nest, []api.Value{text("")}, false}, {7, []api.Value{num(1)}, false},
		{7, []api.Value{null}, false}, {0, []api.Value{{}}, false},
	} {
		for _, context := range contexts(in(c.id, c.set...)) {
			valid(t, typed(), context, c.want)
		}
	}
}

// P8.1, E3: what is not well-formed is not valid, at the top and inside of others.
func TestValidBroken(t *testing.T) {
	for what, p := range broken() {
		if wantWellFormed(p) {
			t.Errorf("%s: the predicate is well-formed", what)
		}
		for _, context := range contexts(p) {
			if pred.Valid(typed(), context) {
				t.Errorf("%s is valid in %+v", what, context)
			}
		}
	}
	for _, p := range append(small(), and(repeated(16, yes)...), or(repeated(16, isNull(3))...), in(3, numbers(16, 0)...),
		prefix(4, xs(200)), in(4, text(xs(200)))) {
		for _, context := range contexts(p) {
			valid(t, typed(), context, true)
		}
	}
}

// innermost are predicates without Kids.
func innermost() []api.Pred {
	return []api.Pred{yes, and(), or(), isNull(3), between(3, 0, 1), in(3, num(1)), prefix(4, "a")}
}

// P8.1, E3: depths, where the innermost predicate has no Kids.
func TestValidDepths(t *testing.T) {
	for n := range 20 {
		for _, p := range innermost() {
			for _, o := range []int{api.And, api.Or, api.Not} {
				valid(t, typed(), chain(o, n, p), n+1 <= 8)
				valid(t, typed(), and(yes, chain(o, n, p), no), n+2 <= 8)
				valid(t, typed(), or(chain(api.Not, 3, yes), not(chain(o, n, p))), n+3 <= 8)
			}
		}
		valid(t, typed(), chain(api.Not, n, or(yes, isNull(3), in(4, text("a")))), n+2 <= 8)
		valid(t, typed(), chain(api.And, n, isNull(6)), false)
		valid(t, typed(), chain(api.Or, n, not()), false)
	}
	deep := and(chain(api.Not, 6, yes), or(chain(api.And, 5, no), isNull(1)), chain(api.Or, 6, and()))
	valid(t, typed(), deep, true)
	valid(t, typed(), not(deep), false)
	valid(t, typed(), chain(api.Not, 300, yes), false)
}

// P8.1, E3: schemas need not be valid: the first field with a number counts, in any order, whatever its type is.
func TestValidForInvalidSchemas(t *testing.T) {
	fields := func(l ...api.Field) api.Schema { return api.Schema{Fields: l} }
	field := func(id, typ int) api.Field { return api.Field{ID: id, Type: typ} }
	for _, s := range []api.Schema{
		{}, schema.New(), {Next: -1}, fields(field(0, 0), field(0, 9)), fields(field(1, 7)), typed(),
	} {
		for _, p := range []api.Pred{yes, no, and(yes, not(or())), chain(api.Not, 7, yes)} {
			valid(t, s, p, true)
		}
		valid(t, s, not(), false)
		valid(t, s, isNull(0), false)
		valid(t, s, between(77, 0, 1), false)
	}
	twice := fields(field(1, api.Int), field(1, api.Text), field(2, api.Text), field(2, api.Int),
		field(3, api.Nest), field(3, api.Int))
	valid(t, twice, between(1, 0, 1), true)
	valid(t, twice, prefix(1, ""), false)
	valid(t, twice, in(1, num(7)), true)
	valid(t, twice, in(1, text("a")), false)
	valid(t, twice, prefix(2, ""), true)
	valid(t, twice, between(2, 0, 1), false)
	valid(t, twice, isNull(3), false)
	valid(t, twice, between(3, 0, 1), false)
	unordered := fields(field(9, api.Int), field(4, api.Text), field(-2, api.Bool), field(7, api.Day),
		field(0, api.Small), field(1, api.Text))
	for _, p := range []api.Pred{
		between(9, 0, 1), prefix(4, ""), between(-2, 0, 1), between(7, 0, 1), between(0, 0, 1), prefix(1, ""),
		isNull(0), isNull(-2), in(0, num(5)), in(-2, num(1)), in(4, text("a")),
	} {
		valid(t, unordered, p, true)
	}
	valid(t, unordered, isNull(3), false)
	valid(t, unordered, in(-2, num(2)), false)
	for _, typ := range []int{math.MinInt, -1, 0, 6, 7, 8, 256 + api.Int, 1<<32 + api.Text, math.MaxInt} {
		s := fields(field(1, typ), field(1, api.Int))
		for _, p := range []api.Pred{
			isNull(1), between(1, 0, 1), prefix(1, ""), in(1, num(1)), in(1, text("a")), in(1, null), in(1),
		} {
			valid(t, s, p, false)
			valid(t, s, not(p), false)
		}
	}
}

// fitting is any predicate that is valid for typed, with a depth of at most room.
func fitting(r *rand.Rand, room int) api.Pred {
	p := wellFormed(r, room)
	for _, q := range nodes(&p) {
		switch q.Op {
		case api.Between:
			q.ID = pick(r, []int{1, 2, 3, 5, 11})
		case api.Prefix:
			q.ID = pick(r, []int{4, 9})
		case api.IsNull:
			q.ID = pick(r, []int{1, 2, 3, 4, 5, 9, 11})
		case api.In:
			q.ID = pick(r, []int{1, 2, 3, 5, 11})
			q.Set = numbers(1+r.Intn(2), int64(r.Intn(1)))
			if r.Intn(2) == 0 {
				q.ID = pick(r, []int{4, 9})
				q.Set = []api.Value{text("a"), text("ab"), text("b")}[r.Intn(3):]
			}
		}
	}
	return p
}

// altered is a copy of p in which one field of one predicate is another one.
func altered(r *rand.Rand, p api.Pred) api.Pred {
	p = clone(p)
	l := nodes(&p)
	q, other := l[r.Intn(len(l))], wellFormed(r, 2)
	switch r.Intn(7) {
	case 0:
		q.Op = r.Intn(10) - 1
	case 1:
		q.ID = pick(r, []int{0, 1, 2, 3, 4, 5, 6, 7, 9, 11})
	case 2:
		q.Lo = pick(r, someNumbers)
	case 3:
		q.Hi = pick(r, someNumbers)
	case 4:
		q.Set = slices.Insert(q.Set, r.Intn(len(q.Set)+1), anyValue(r))
	case 5:
		q.Text = pick(r, []string{"", "a", xs(200), xs(201)})
	case 6:
		q.Kids = slices.Insert(q.Kids, r.Intn(len(q.Kids)+1), other)
	}
	return p
}

// P8.1, E3: any predicates that are valid, and any that are so except for what was altered.
func TestValidAny(t *testing.T) {
	r := rand.New(rand.NewSource(3))
	found := map[bool]int{}
	for range 20000 {
		p := fitting(r, 1+r.Intn(9))
		valid(t, typed(), p, wantValid(typed(), p))
		found[wantValid(typed(), p)]++
		p = altered(r, p)
		valid(t, typed(), p, wantValid(typed(), p))
		found[wantValid(typed(), p)]++
	}
	if found[true] < 5000 || found[false] < 5000 {
		t.Errorf("%d predicates are valid, %d are not", found[true], found[false])
	}
}
