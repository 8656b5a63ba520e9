package decide_test

import (
	"math"
	"slices"
	"strconv"
	"testing"

	"fenland/api"
	"fenland/decide"
	"fenland/pred"
	"fenland/schema"
)

// many is a schema with n fields.
func many(n int) api.Schema {
	s := api.Schema{Next: n + 1}
	for id := 1; id <= n; id++ {
		s.Fields = append(s.Fields, api.Field{ID: id, Name: "f" + strconv.Itoa(id), Type: 1 + id%5})
	}
	return s
}

// nested is a schema with n groups, each inside of the one before it.
func nested(n int) api.Schema {
	s := many(n)
	for i := range s.Fields {
		s.Fields[i].Type, s.Fields[i].Parent = api.Nest, i
	}
	return s
}

// brokenSchemas are schemas that are not valid, by what is wrong.
func brokenSchemas() map[string]api.Schema {
	changed := func(change func(s *api.Schema, l []api.Field)) api.Schema {
		s := typed()
		change(&s, s.Fields)
		return s
	}
	return map[string]api.Schema{
		"the zero schema": {}, "65 fields": many(65), "nine levels": nested(9),
		"a small Next":    changed(func(s *api.Schema, _ []api.Field) { s.Next = lastInt }),
		"a great Next":    changed(func(s *api.Schema, _ []api.Field) { s.Next = 1<<30 + 1 }),
		"a negative Next": changed(func(s *api.Schema, _ []api.Field) { s.Next = -1 }),
		"the order":       changed(func(_ *api.Schema, l []api.Field) { l[0], l[4] = l[4], l[0] }),
		"a number twice":  changed(func(_ *api.Schema, l []api.Field) { l[1].ID = aBool }),
		"the number 0":    changed(func(_ *api.Schema, l []api.Field) { l[0].ID = 0 }),
		"a name twice":    changed(func(_ *api.Schema, l []api.Field) { l[1].Name = "bool" }),
		"a name":          changed(func(_ *api.Schema, l []api.Field) { l[1].Name = "Small" }),
		"no name":         changed(func(_ *api.Schema, l []api.Field) { l[1].Name = "" }),
		"a long name":     changed(func(_ *api.Schema, l []api.Field) { l[1].Name = xs(33) }),
		"the type 0":      changed(func(_ *api.Schema, l []api.Field) { l[6].Type = 0 }),
		"the type 7":      changed(func(_ *api.Schema, l []api.Field) { l[6].Type = 7 }),
		"no group":        changed(func(_ *api.Schema, l []api.Field) { l[0].Parent = aDay }),
		"no parent":       changed(func(_ *api.Schema, l []api.Field) { l[0].Parent = 8 }),
		"a cycle":         changed(func(_ *api.Schema, l []api.Field) { l[5].Parent = api.Nest }),
	}
}

// brokenPreds are predicates that are not valid for typed, by what is wrong.
func brokenPreds() map[string]api.Pred {
	m := map[string]api.Pred{
		"17 Kids":                 and(repeated(17, yes)...),
		"17 Kids of Or":           or(repeated(17, a)...),
		"Not without Kids":        {Op: api.Not},
		"Not of two Kids":         {Op: api.Not, Kids: []api.Pred{a, a}},
		"nine levels":             deep(8, a),
		"17 elements":             inNums(anInt, 0, 1, 2, 3, 4, 5, 6, 7, 8, 9, 10, 11, 12, 13, 14, 15, 16),
		"no elements":             in(anInt),
		"an element null":         in(anInt, null),
		"equal elements":          in(anInt, num(1), num(1)),
		"decreasing elements":     in(anInt, num(2), num(1)),
		"an element that is 2":    inNums(aBool, 0, 2),
		"an element too small":    inNums(aSmall, math.MinInt32-1),
		"an element too great":    inNums(aDay, 1000001),
		"a text in an Int":        inTexts(anInt, "a"),
		"a number in a Text":      inNums(aText, 1),
		"an element of 201 bytes": inTexts(aText, xs(201)),
		"a prefix of 201 bytes":   prefix(aText, xs(201)),
		"Between of a Text":       between(aText, 0, 1),
		"Prefix of an Int":        prefix(anInt, "a"),
		"Between of a group":      between(api.Nest, 0, 1),
		"IsNull of a group":       isNull(api.Nest),
		"IsNull of no field":      isNull(7),
		"IsNull of the field 0":   isNull(0),
		"Prefix of no field":      prefix(-aText, ""),
		"a True with an ID":       {ID: anInt},
		"an And with a Set":       {Op: api.And, Set: []api.Value{num(1)}},
		"an IsNull with a Kid":    {Op: api.IsNull, ID: anInt, Kids: []api.Pred{yes}},
		"a Between with a Text":   {Op: api.Between, ID: anInt, Text: "a"},
		"a Prefix with a Lo":      {Op: api.Prefix, ID: aText, Lo: 1},
		"an In with a Hi":         {Op: api.In, ID: anInt, Set: []api.Value{num(1)}, Hi: 1},
	}
	for _, op := range []int{-1, 8, 9, 255, 256, math.MinInt, math.MaxInt} {
		m["the operator "+strconv.Itoa(op)] = api.Pred{Op: op}
	}
	return m
}

// P9.1, D1 to D4: ErrArg if s is not valid, for predicates that are, and for others.
func TestInvalidSchemas(t *testing.T) {
	for what, s := range brokenSchemas() {
		if schema.Valid(s) {
			t.Errorf("%s: the schema is valid", what)
		}
		for _, p := range []api.Pred{yes, no, and(), not(yes), {Op: 8}, isNull(7), joined(api.Or, repeated(257, yes))} {
			fails(t, s, p, api.ErrArg)
		}
		for _, p := range []api.Pred{a, b, not(c), d, or(d, e), ors(256), ors(257), and(no, ors(257))} {
			fails(t, s, p, api.ErrArg)
			pairFails(t, s, p, a, api.ErrArg)
		}
	}
	for _, s := range []api.Schema{bare(), {Next: 1 << 30}, many(64), nested(8), only(), typed()} {
		if l, err := decide.Normal(s, yes); err != api.OK || len(l) != 1 {
			t.Errorf("Normal of True: %v, %v for %+v", l, err, s)
		}
	}
}

// P9.1, D1 to D4: ErrArg if a predicate is not valid, at the top and inside of others, as the first and as the second
// one.
func TestInvalidPredicates(t *testing.T) {
	for what, p := range brokenPreds() {
		if pred.Valid(typed(), p) {
			t.Errorf("%s: the predicate is valid", what)
		}
		for _, q := range []api.Pred{
			p, and(p), or(a, p), not(p), and(no, p), and(p, no), or(yes, p), not(and(b, or(yes, not(p)))), or(p, ors(257)),
			and(repeated(16, p)...),
		} {
			fails(t, typed(), q, api.ErrArg)
		}
		for _, q := range []api.Pred{a, b, not(c), d, p, and(no, a), ors(256)} {
			pairFails(t, typed(), p, q, api.ErrArg)
			pairFails(t, typed(), q, p, api.ErrArg)
		}
	}
	// What fits one schema need not fit another one.
	for _, s := range []api.Schema{bare(), only(aText), only(aBool, aSmall, aDay, lastInt)} {
		fails(t, s, a, api.ErrArg)
		pairFails(t, s, or(yes, a), no, api.ErrArg)
	}
}

// P9.1, D3 and D4: ErrArg comes before ErrDecide, whichever predicate is not valid and whichever has too many terms.
func TestOrderOfErrors(t *testing.T) {
	large := []api.Pred{ors(257), and(ors(257), no), not(ands(257)), ors(4096), ors(256)}
	for _, broken := range brokenPreds() {
		for _, p := range large {
			for _, q := range []api.Pred{broken, or(yes, broken), not(broken)} {
				pairFails(t, typed(), p, q, api.ErrArg)
				pairFails(t, typed(), q, p, api.ErrArg)
			}
		}
	}
	for _, p := range large {
		fails(t, bare(), p, api.ErrArg)
		fails(t, api.Schema{Fields: typed().Fields}, p, api.ErrArg)
		fails(t, typed(), or(p, isNull(7)), api.ErrArg)
		for _, q := range append(slices.Clone(large), nullAnds(257), ands(129)) {
			disjointFails(t, api.Schema{}, p, q, api.ErrArg)
			impliesFails(t, bare(), p, q, api.ErrArg)
		}
	}
	for _, p := range large[:4] {
		for _, q := range []api.Pred{nullAnds(257), ands(129), ors(257)} {
			impliesFails(t, typed(), p, q, api.ErrDecide)
		}
	}
}

// P9.1, D3 and D4: each predicate may have eight levels, though their And has nine.
func TestEightLevels(t *testing.T) {
	for _, p := range []api.Pred{a, not(a), d} {
		l := deep(8-len(p.Kids)-1, p)
		if _, ok, err := decide.Witness(typed(), l); !ok || err != api.OK {
			t.Errorf("Witness of %s: %v, %v", show(l), ok, err)
		}
		disjoint(t, typed(), l, l, false)
		implies(t, typed(), l, l, true)
		fails(t, typed(), and(l), api.ErrArg)
	}
}
