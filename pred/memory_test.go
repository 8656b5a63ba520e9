package pred_test

import (
	"bytes"
	"math/rand"
	"slices"
	"strings"
	"sync"
	"testing"

	"fenland/api"
	"fenland/pred"
)

// roomy is a copy of p in which each list has room behind its end, with elements in it.
func roomy(p api.Pred) api.Pred {
	p.Set = append(slices.Clone(p.Set), num(77), text("behind"), null)[:len(p.Set)]
	p.Kids = append(slices.Clone(p.Kids), isNull(77), no)[:len(p.Kids)]
	for i, k := range p.Kids {
		p.Kids[i] = roomy(k)
	}
	return p
}

// whole is a copy of p with what is in the room behind its lists, as far as roomy has put it there.
func whole(p api.Pred) api.Pred {
	p.Set = slices.Clone(p.Set[:len(p.Set)+3])
	inner := len(p.Kids)
	p.Kids = slices.Clone(p.Kids[:inner+2])
	for i := range inner {
		p.Kids[i] = whole(p.Kids[i])
	}
	return p
}

// trees are predicates of every kind, some of which are not well-formed.
func trees() []api.Pred {
	r := rand.New(rand.NewSource(13))
	l := []api.Pred{or(isNull(9), between(5, 0, 1), isNull(2), in(7, num(3), num(1), num(2)), isNull(2)),
		and(repeated(17, in(3, num(2), num(1)))...), not(), not(yes, no)}
	for range 300 {
		l = append(l, anyPred(r, 1+r.Intn(5)), fitting(r, 1+r.Intn(5)))
	}
	return l
}

// P2: no function changes its arguments, up to their capacities.
func TestArgumentsStay(t *testing.T) {
	r := rand.New(rand.NewSource(14))
	for _, original := range trees() {
		p := roomy(original)
		before := whole(p)
		cells := append(anyRow(r).Cells, cell(9, num(3)), cell(1, num(2)), cell(1, null))
		s := typed()
		s.Fields = append(s.Fields, api.Field{ID: 5, Name: "behind"})
		cellsBefore, fieldsBefore := slices.Clone(cells), slices.Clone(s.Fields)
		x := api.Row{Cells: cells[:len(cells)-1]}
		pred.Eval(p, x)
		pred.Match(p, x)
		pred.Fields(p)
		pred.Size(p)
		pred.Encode(nil, p)
		pred.Valid(api.Schema{Fields: s.Fields[:len(s.Fields)-1]}, p)
		if !equal(whole(p), before) {
			t.Errorf("a function changes %+v", original)
		}
		if !slices.Equal(cells, cellsBefore) || !slices.Equal(s.Fields, fieldsBefore) {
			t.Errorf("a function changes the row or the schema of %+v", original)
		}
	}
}

// spoil writes to every byte of a slice and to the room behind it.
func spoil(b []byte) {
	b = b[:cap(b)]
	for i := range b {
		b[i] = 0xEE
	}
}

// P2, and P8.1, E4: the result of Encode is in new memory, also if p has no encoding, and b stays as it was up to its
// capacity.
func TestEncodeSharesNothing(t *testing.T) {
	for _, p := range trees() {
		for _, n := range []int{0, 1, 5, 40, 64} {
			memory := bytes.Repeat([]byte{0x55}, 64)
			b := memory[:n]
			first, second := pred.Encode(b, p), pred.Encode(b, p)
			want := bytes.Clone(first)
			if !bytes.Equal(memory, bytes.Repeat([]byte{0x55}, 64)) {
				t.Fatalf("Encode(%v, %+v) changes its argument", b, p)
			}
			spoil(append(first, 1, 2, 3))
			spoil(first)
			if !bytes.Equal(memory, bytes.Repeat([]byte{0x55}, 64)) || !bytes.Equal(second, want) {
				t.Errorf("the result of Encode(%v, %+v) has the memory of its argument or of another result", b, p)
			}
			spoil(memory)
			if !bytes.Equal(second, want) {
				t.Errorf("the result of Encode changes with b")
			}
		}
	}
}

// P2: what Encode has written can be continued in different ways.
func TestEncodeAfterEncode(t *testing.T) {
	first := pred.Encode(nil, and(isNull(1), in(2, num(3))))
	keep := bytes.Clone(first)
	second, third := pred.Encode(first, prefix(1, "second")), pred.Encode(first, prefix(1, "third"))
	if !bytes.Equal(first, keep) || !bytes.Equal(second, slices.Concat(keep, wantEncode(prefix(1, "second")))) ||
		!bytes.Equal(third, slices.Concat(keep, wantEncode(prefix(1, "third")))) {
		t.Errorf("%v is continued by %v and %v", first, second, third)
	}
}

// P2: the results of Fields are in new memory.
func TestFieldsSharesNothing(t *testing.T) {
	for _, p := range trees() {
		p = roomy(p)
		before := whole(p)
		first, second := pred.Fields(p), pred.Fields(p)
		want := slices.Clone(first)
		for i := range first[:cap(first)] {
			first[:cap(first)][i] = -77
		}
		if !slices.Equal(second, want) || !equal(whole(p), before) || !slices.Equal(pred.Fields(p), want) {
			t.Errorf("a result of Fields(%+v) has the memory of something else", p)
		}
	}
}

// spoilPred writes to all lists of p and to the room behind them.
func spoilPred(p api.Pred) {
	for _, k := range p.Kids {
		spoilPred(k)
	}
	set, kids := p.Set[:cap(p.Set)], p.Kids[:cap(p.Kids)]
	for i := range set {
		set[i] = api.Value{N: -77, S: "SPOILT"}
	}
	for i := range kids {
		kids[i] = isNull(-77)
	}
}

// P2: what Decode returns has nothing of the memory of the bytes, nor of another result, and b stays as it was.
func TestDecodeSharesNothing(t *testing.T) {
	for _, p := range samples() {
		b := append(pred.Encode([]byte{9}, p), 1, 2, 3)[:1+len(wantEncode(p))]
		keep := bytes.Clone(b[:cap(b)])
		first, _, _ := pred.Decode(b, 1)
		second, next, err := pred.Decode(b, 1)
		spoilPred(first)
		if !bytes.Equal(b[:cap(b)], keep) || !equal(second, p) {
			t.Fatalf("a result of Decode(%v, 1) has the memory of something else", b)
		}
		spoil(b)
		if !equal(second, p) || next != len(b) || err != api.OK {
			t.Errorf("the result of Decode changes with b: %+v", second)
		}
	}
	for _, b := range inputs()[:3000] {
		keep := bytes.Clone(b)
		for at := -1; at <= len(b)+1; at++ {
			pred.Decode(b, at)
		}
		if !bytes.Equal(b, keep) {
			t.Fatalf("Decode changes %v", keep)
		}
	}
}

// P2: the lists of one result are separate: writing behind one of them does not change another one.
func TestDecodedListsAreSeparate(t *testing.T) {
	p := and(or(yes, isNull(1)), in(1, num(1), num(2)), in(2, num(3)), or(no, in(3, num(4), num(5), num(6))))
	q, _, _ := pred.Decode(pred.Encode(nil, p), 0)
	for i := range q.Kids {
		before := make([]api.Pred, len(q.Kids))
		for k := range q.Kids {
			before[k] = clone(q.Kids[k])
		}
		_ = append(q.Kids[i].Set, num(-77))
		_ = append(q.Kids[i].Kids, isNull(-77))
		for k := range q.Kids {
			if !equal(q.Kids[k], before[k]) {
				t.Errorf("the Kids %d and %d share memory", i, k)
			}
		}
	}
	if _ = append(q.Kids, isNull(-77)); !equal(p, q) {
		t.Errorf("%+v instead of %+v", q, p)
	}
}

// P2: results do not depend on what was called before, nor on what is called at the same time.
func TestCallsAtTheSameTime(t *testing.T) {
	l := trees()
	x := row(cell(1, num(1)), cell(2, text("a")), cell(3, null), cell(4, text("ab")))
	var wait sync.WaitGroup
	for n := range 8 {
		wait.Go(func() {
			for i := n; i < len(l); i += 2 {
				evaluates(t, l[i], x, wantEval(l[i], x))
				fields(t, l[i], wantSize(l[i]), wantFields(l[i])...)
				valid(t, typed(), l[i], wantValid(typed(), l[i]))
				if wantWellFormed(l[i]) {
					encodes(t, l[i], wantEncode(l[i])...)
				} else {
					refuses(t, "at the same time", l[i])
				}
			}
		})
	}
	wait.Wait()
}

// P2: nil and empty slices are interchangeable.
func TestNilAndEmpty(t *testing.T) {
	for _, c := range []struct{ bare, empty api.Pred }{
		{yes, api.Pred{Set: []api.Value{}, Kids: []api.Pred{}}},
		{and(), api.Pred{Op: api.And, Set: make([]api.Value, 0, 3), Kids: make([]api.Pred, 0, 3)}},
		{no, api.Pred{Op: api.Or, Set: []api.Value{}, Kids: []api.Pred{}}},
		{in(3), api.Pred{Op: api.In, ID: 3, Set: []api.Value{}, Kids: []api.Pred{}}},
		{isNull(3), api.Pred{Op: api.IsNull, ID: 3, Set: []api.Value{}, Kids: []api.Pred{}}},
		{not(), api.Pred{Op: api.Not, Kids: []api.Pred{}}},
	} {
		for _, x := range []api.Row{{}, {Cells: []api.Cell{}}, {Cells: make([]api.Cell, 0, 3)}} {
			evaluates(t, c.empty, x, wantEval(c.bare, x))
		}
		fields(t, c.empty, 1, wantFields(c.bare)...)
		for _, s := range []api.Schema{typed(), {}, {Fields: []api.Field{}}} {
			valid(t, s, c.empty, wantValid(s, c.bare))
		}
		if !bytes.Equal(pred.Encode(nil, c.empty), pred.Encode([]byte{}, c.bare)) {
			t.Errorf("%+v has another encoding with empty slices", c.bare)
		}
	}
}

// P1: all functions return for predicates that are very deep, very wide, or both.
func TestLargePredicates(t *testing.T) {
	const deep, wide = 60000, 300000
	x := row(cell(1, num(1)))
	evaluates(t, chain(api.Not, deep, isNull(1)), x, api.No)
	evaluates(t, chain(api.And, deep, between(1, 0, 1)), x, api.Yes)
	evaluates(t, chain(api.Or, deep, between(2, 0, 1)), x, api.Unknown)
	broad := and(append(repeated(wide, in(1, num(1))), prefix(2, "a"))...)
	evaluates(t, broad, x, api.Unknown)
	fields(t, broad, wide+2, 1, 2)
	for _, o := range []int{api.Not, api.IsNull, 8} {
		p := chain(o, deep, isNull(1))
		if n := pred.Size(p); n != deep+1 {
			t.Errorf("the size is %d", n)
		}
		if l := pred.Fields(p); len(l) == 0 || l[len(l)-1] != 1 {
			t.Errorf("the fields are %v", l)
		}
		valid(t, typed(), p, false)
		refuses(t, "deep", p)
	}
	valid(t, typed(), broad, false)
	refuses(t, "wide", broad)
	full := prefix(4, xs(200))
	for range 4 {
		full = and(repeated(16, full)...)
	}
	valid(t, typed(), full, true)
	if b := pred.Encode(nil, full); len(b) != 204*65536+2*4369 {
		t.Errorf("the encoding has %d bytes", len(b))
	} else if p, next, err := pred.Decode(b, 0); !equal(p, full) || next != len(b) || err != api.OK {
		t.Errorf("Decode ends at %d of %d: %v", next, len(b), err)
	}
	evaluates(t, full, row(cell(4, text(strings.Repeat("x", 201)))), api.Yes)
}
