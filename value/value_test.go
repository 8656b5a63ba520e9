package value

import (
	"math"
	"strings"
	"testing"

	"fenland/api"
)

// P5.1, V1: the bounds of each type, and the numbers beside them.
func TestBounds(t *testing.T) {
	for _, c := range []struct {
		v  api.Value
		ok []int
	}{
		{null, types},
		{api.Value{}, types},
		{num(1), []int{api.Bool, api.Small, api.Int, api.Day}},
		{num(2), []int{api.Small, api.Int, api.Day}},
		{num(-1), []int{api.Small, api.Int, api.Day}},
		{num(-1000000), []int{api.Small, api.Int, api.Day}},
		{num(1000000), []int{api.Small, api.Int, api.Day}},
		{num(-1000001), []int{api.Small, api.Int}},
		{num(1000001), []int{api.Small, api.Int}},
		{num(-1 << 31), []int{api.Small, api.Int}},
		{num(1<<31 - 1), []int{api.Small, api.Int}},
		{num(-1<<31 - 1), []int{api.Int}},
		{num(1 << 31), []int{api.Int}},
		{num(1 << 32), []int{api.Int}},
		{num(math.MinInt64), []int{api.Int}},
		{num(math.MaxInt64), []int{api.Int}},
		{text("a"), []int{api.Text}},
		{text("\x00"), []int{api.Text}},
		{text("\xff\x80"), []int{api.Text}},
		{text(strings.Repeat("x", 200)), []int{api.Text}},
		{text(strings.Repeat("x", 201)), nil},
		{text(strings.Repeat("é", 101)), nil},
		{text(strings.Repeat("x", 456)), nil},
		{api.Value{N: 1, S: "a"}, nil},
		{api.Value{N: -1, S: "a"}, nil},
		{api.Value{Null: true, N: 1}, nil},
		{api.Value{Null: true, N: -1}, nil},
		{api.Value{Null: true, S: "a"}, nil},
		{api.Value{Null: true, N: 1, S: "a"}, nil},
	} {
		want := map[int]bool{}
		for _, typ := range c.ok {
			want[typ] = true
		}
		for _, typ := range append(otherTypes, types...) {
			if Valid(c.v, typ) != want[typ] {
				t.Errorf("Valid(%+v, %d) = %v", c.v, typ, !want[typ])
			}
		}
	}
}

// P5.1, V1.
func TestValid(t *testing.T) {
	for _, v := range values() {
		for _, typ := range append(otherTypes, types...) {
			if want := wantValid(v, typ); Valid(v, typ) != want {
				t.Errorf("Valid(%+v, %d) = %v", v, typ, !want)
			}
		}
	}
}

// ordered are values in increasing order: valid ones, and such as are valid for no type.
func ordered() []api.Value {
	return []api.Value{
		null,
		{Null: true, S: "a"},
		{Null: true, N: 1},
		{Null: true, N: 1, S: "a"},
		num(math.MinInt64),
		{N: math.MinInt64, S: "z"},
		num(-1 << 31),
		num(-1000000),
		num(-6),
		num(-5),
		num(-1),
		{N: -1, S: "z"},
		num(0),
		text("\x00"),
		text("\x00\x00"),
		text("\x00a"),
		text("A"),
		text("a"),
		text("a\x00"),
		text("aa"),
		text("ab"),
		text("a\xff"),
		text("b"),
		text(strings.Repeat("b", 200)),
		text(strings.Repeat("b", 201)),
		text("\x7f"),
		text("\x80"),
		text("é"),
		text("\xff"),
		num(1),
		{N: 1, S: "a"},
		num(2),
		num(1000000),
		num(1 << 32),
		num(math.MaxInt64),
		{N: math.MaxInt64, S: "\xff"},
	}
}

// P5.1, V2, and P5.2: null values come first, then numbers count, then texts byte by byte.
func TestCompare(t *testing.T) {
	l := ordered()
	for i, a := range l {
		for k, b := range l {
			want := 0
			switch {
			case i < k:
				want = -1
			case i > k:
				want = 1
			}
			if got := Compare(a, b); got != want {
				t.Errorf("Compare(%+v, %+v) = %d", a, b, got)
			}
			if Same(a, b) != (i == k) {
				t.Errorf("Same(%+v, %+v) = %v", a, b, i != k)
			}
		}
	}
	if Compare(null, num(-5)) != -1 || Compare(text("a"), text("ab")) != -1 {
		t.Error("the examples are wrong")
	}
}

// P5.2: of two values, one is less, or they are the same one.
func TestOrderOfPairs(t *testing.T) {
	l := values()
	for _, a := range l {
		for _, b := range l {
			got, back := Compare(a, b), Compare(b, a)
			if got < -1 || got > 1 || got != -back {
				t.Fatalf("Compare(%+v, %+v) = %d, and back %d", a, b, got, back)
			}
			if (got == 0) != (a == b) || Same(a, b) != (a == b) {
				t.Fatalf("Compare(%+v, %+v) = %d, Same %v", a, b, got, Same(a, b))
			}
			if a.Null && !b.Null && got != -1 {
				t.Fatalf("the null value %+v is not less than %+v", a, b)
			}
		}
	}
}

// P5.2: what is less than something that is less is less.
func TestOrderOfTriples(t *testing.T) {
	var l []api.Value
	for i, v := range values() {
		if i%7 == 0 {
			l = append(l, v)
		}
	}
	l = append(l, ordered()...)
	less := make([][]bool, len(l))
	for i, a := range l {
		less[i] = make([]bool, len(l))
		for k, b := range l {
			less[i][k] = Compare(a, b) < 0
		}
	}
	for i := range l {
		for k := range l {
			for m := range l {
				if less[i][k] && less[k][m] && !less[i][m] {
					t.Fatalf("%+v < %+v < %+v", l[i], l[k], l[m])
				}
				if !less[i][k] && !less[k][m] && less[i][m] {
					t.Fatalf("%+v >= %+v >= %+v", l[i], l[k], l[m])
				}
			}
		}
	}
}
