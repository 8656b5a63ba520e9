package page_test

import (
	"bytes"
	"fmt"
	"math"
	"math/rand"
	"slices"
	"strings"
	"testing"

	"fenland/api"
	"fenland/page"
)

const (
	least    = math.MinInt64
	greatest = math.MaxInt64
)

var (
	null       = api.Value{Null: true}
	types      = []int{api.Bool, api.Small, api.Int, api.Text, api.Day}
	otherTypes = []int{0, api.Nest, 7, 8, 255, 256, 257, -1, -3, math.MinInt, math.MaxInt}
	kinds      = []int{api.Plain, api.Dict, api.Delta, api.Runs}
	otherKinds = []int{0, 5, 6, 255, 256, 257, 260, -1, -4, math.MinInt, math.MaxInt}
)

func num(n int64) api.Value { return api.Value{N: n} }

func text(s string) api.Value { return api.Value{S: s} }

func nums(l ...int64) []api.Value {
	var to []api.Value
	for _, n := range l {
		to = append(to, num(n))
	}
	return to
}

func texts(l ...string) []api.Value {
	var to []api.Value
	for _, s := range l {
		to = append(to, text(s))
	}
	return to
}

func xs(n int) string { return strings.Repeat("x", n) }

// times is a column of n equal values.
func times(n int, v api.Value) []api.Value { return slices.Repeat([]api.Value{v}, n) }

// counted is a column of n different numbers.
func counted(n int) []api.Value {
	var l []api.Value
	for i := range n {
		l = append(l, num(int64(i)))
	}
	return l
}

// kindsOf are the kinds of the pages of a type.
func kindsOf(t int) []int {
	if t == api.Text {
		return []int{api.Plain, api.Dict, api.Runs}
	}
	return kinds
}

// edges are values of a type at which something changes.
func edges(t int) []api.Value {
	small := nums(0, 1, -1, 2, -2, 5, 7, 63, 64, -64, -65, 127, 128, 8191, 8192, -8192, -8193, 1000000, -1000000)
	switch t {
	case api.Bool:
		return nums(0, 1)
	case api.Small:
		return append(small, nums(math.MaxInt32, math.MinInt32, math.MaxInt32-1, math.MinInt32+1)...)
	case api.Int:
		return append(small, nums(greatest, least, greatest-1, least+1, 1<<32, -1<<32, 1<<62, -1<<62, 1<<31, -1<<31-1)...)
	case api.Text:
		return texts("", "a", "ab", "abc", "b", "B", "\x00", "\x00\x00", "\x01", "\x80", "\xff", "\xff\xff", "é", "0", "00", "10", "9",
			"null", xs(126), xs(127), xs(128), xs(199), xs(200), strings.Repeat("\x00", 200), strings.Repeat("\xff", 200), xs(199)+"y")
	}
	return small
}

// invalid are values that are not valid for a type, by what is wrong.
func invalid(t int) map[string]api.Value {
	m := map[string]api.Value{
		"a null with N 1": {Null: true, N: 1}, "a null with N -1": {Null: true, N: -1},
		"a null with S": {Null: true, S: "a"}, "a null with N and S": {Null: true, N: 2, S: "b"},
		"N and S": {N: 1, S: "a"},
	}
	switch t {
	case api.Bool:
		m["2"], m["-1"], m["2^32"] = num(2), num(-1), num(1<<32)
	case api.Small:
		m["2^31"], m["-2^31 - 1"], m["2^32"], m["the least number"] = num(1<<31), num(-1<<31-1), num(1<<32), num(least)
	case api.Text:
		m["a number"], m["a text of 201 bytes"], m["a text of 456 bytes"] = num(1), text(xs(201)), text(xs(456))
	case api.Day:
		m["1000001"], m["-1000001"], m["2^32"], m["the greatest number"] = num(1000001), num(-1000001), num(1<<32), num(greatest)
	}
	if t != api.Text {
		m["a text"] = text("a")
	}
	return m
}

// some returns any value of a type that is not null.
func some(r *rand.Rand, t int) api.Value {
	if r.Intn(2) == 0 {
		return pick(r, edges(t))
	}
	switch t {
	case api.Bool:
		return num(r.Int63n(2))
	case api.Small:
		return num(int64(int32(r.Uint32()) >> r.Intn(32)))
	case api.Int:
		return num(int64(r.Uint64()) >> r.Intn(64))
	case api.Text:
		b := make([]byte, r.Intn(1+r.Intn(201)))
		r.Read(b)
		return text(string(b))
	}
	return num(r.Int63n(2000001) - 1000000)
}

// pick returns any element.
func pick[T any](r *rand.Rand, l []T) T { return l[r.Intn(len(l))] }

// anyColumn is a column of n values of a type, of one of several shapes, with more or fewer nulls.
func anyColumn(r *rand.Rand, t, n int) []api.Value {
	shape, nulls := r.Intn(5), pick(r, []int{0, 0, 1, 10, 50, 100})
	var few []api.Value
	for range 1 + r.Intn(1+r.Intn(300)) {
		few = append(few, some(r, t))
	}
	start, step := int64(r.Intn(2000)-1000), int64(r.Intn(900))
	var l []api.Value
	for i := range n {
		v := some(r, t)
		switch {
		case shape == 1:
			v = pick(r, few)
		case shape == 2 && i > 0 && r.Intn(20) > 0:
			v = l[i-1]
		case shape == 3 && t != api.Text && t != api.Bool:
			v = num(start + step*int64(i) + r.Int63n(3))
		case shape == 4:
			v = few[0]
		}
		if r.Intn(100) < nulls && shape != 2 || shape == 2 && i%7 == 0 && r.Intn(100) < nulls {
			v = null
		}
		l = append(l, v)
	}
	return l
}

// smallColumns are all columns of at most n of the given values.
func smallColumns(n int, values ...api.Value) [][]api.Value {
	all, last := [][]api.Value{nil}, [][]api.Value{nil}
	for range n {
		var longer [][]api.Value
		for _, l := range last {
			for _, v := range values {
				longer = append(longer, append(slices.Clip(l), v))
			}
		}
		all, last = append(all, longer...), longer
	}
	return all
}

// columns are columns of a type: small ones, each edge alone, all edges, and any others of many lengths.
func columns(t int) [][]api.Value {
	e := edges(t)
	l := smallColumns(4, null, e[0], e[1])
	for _, v := range e {
		l = append(l, []api.Value{v}, []api.Value{v, v}, []api.Value{null, v}, []api.Value{v, null, v}, []api.Value{v, e[0], v})
	}
	backward := slices.Clone(e)
	slices.Reverse(backward)
	l = append(l, e, backward, slices.Concat(e, e), slices.Concat(backward, []api.Value{null}, e))
	r := rand.New(rand.NewSource(int64(t)))
	for _, n := range []int{5, 6, 7, 8, 9, 15, 16, 17, 100, 127, 128, 129, 255, 256, 257, 1000, 1023, 1024} {
		l = append(l, times(n, null), times(n, e[1]), append(times(n-1, null), e[0]), append(times(n-1, e[1]), null))
		for range 8 {
			l = append(l, anyColumn(r, t, n))
		}
	}
	return l
}

// equal tells whether two pages are equal, nil and empty slices being interchangeable.
func equal(p, q api.Page) bool { return p.Kind == q.Kind && p.Rows == q.Rows && bytes.Equal(p.B, q.B) }

// show is a short notation of a column, of which only the beginning counts.
func show(l []api.Value) string {
	var parts []string
	for _, v := range l[:min(len(l), 12)] {
		switch {
		case v.Null && v == null:
			parts = append(parts, "null")
		case v.Null:
			parts = append(parts, fmt.Sprintf("%+v", v))
		case v.S == "":
			parts = append(parts, fmt.Sprint(v.N))
		default:
			parts = append(parts, fmt.Sprintf("%d %.20q", v.N, v.S))
		}
	}
	return fmt.Sprintf("%d values (%s)", len(l), strings.Join(parts, ", "))
}

// showPage is a short notation of a page.
func showPage(p api.Page) string {
	return fmt.Sprintf("kind %d, %d rows, %s", p.Kind, p.Rows, showBytes(p.B))
}

// showBytes is a short notation of bytes, of which only the beginning counts.
func showBytes(b []byte) string {
	return fmt.Sprintf("%d bytes %v", len(b), b[:min(len(b), 40)])
}

// encode returns the page of a column that has one.
func encode(t *testing.T, l []api.Value, typ, kind int) api.Page {
	t.Helper()
	p, err := page.Encode(l, typ, kind)
	if err != api.OK {
		t.Fatalf("Encode(%s, %d, %d): %v", show(l), typ, kind, err)
	}
	return p
}

// encodes checks the bytes of a column's page, and that it is decoded as the column.
func encodes(t *testing.T, l []api.Value, typ, kind int, want []byte) {
	t.Helper()
	p, err := page.Encode(l, typ, kind)
	if q := (api.Page{Kind: kind, Rows: len(l), B: want}); err != api.OK || !equal(p, q) {
		t.Errorf("Encode(%s, %d, %d) = %s, %v instead of %s", show(l), typ, kind, showPage(p), err, showBytes(want))
	}
	decodes(t, api.Page{Kind: kind, Rows: len(l), B: want}, typ, l)
}

// decodes checks the column of a page.
func decodes(t *testing.T, p api.Page, typ int, want []api.Value) {
	t.Helper()
	if l, err := page.Decode(p, typ); err != api.OK || !slices.Equal(l, want) {
		t.Errorf("Decode(%s, %d) = %s, %v instead of %s", showPage(p), typ, show(l), err, show(want))
	}
}

// encodeFails checks that Encode returns an error and a zero page.
func encodeFails(t *testing.T, l []api.Value, typ, kind int, want api.Errno) {
	t.Helper()
	if p, err := page.Encode(l, typ, kind); err != want || !equal(p, api.Page{}) {
		t.Errorf("Encode(%s, %d, %d) = %s, %v instead of %v", show(l), typ, kind, showPage(p), err, want)
	}
}

// bestFails checks that Best returns an error and a zero page.
func bestFails(t *testing.T, l []api.Value, typ int, want api.Errno) {
	t.Helper()
	if p, err := page.Best(l, typ); err != want || !equal(p, api.Page{}) {
		t.Errorf("Best(%s, %d) = %s, %v instead of %v", show(l), typ, showPage(p), err, want)
	}
}

// decodeFails checks that Decode returns an error and no column.
func decodeFails(t *testing.T, p api.Page, typ int, want api.Errno) {
	t.Helper()
	if l, err := page.Decode(p, typ); err != want || len(l) != 0 {
		t.Errorf("Decode(%s, %d) = %s, %v instead of %v", showPage(p), typ, show(l), err, want)
	}
}

// getFails checks that Get returns an error and zero values.
func getFails(t *testing.T, b []byte, at int, want api.Errno) {
	t.Helper()
	if p, next, err := page.Get(b, at); err != want || next != 0 || !equal(p, api.Page{}) {
		t.Errorf("Get(%s, %d) = %s, %d, %v instead of %v", showBytes(b), at, showPage(p), next, err, want)
	}
}
