package page_test

import (
	"bytes"
	"math/rand"
	"slices"
	"sync"
	"testing"

	"fenland/api"
	"fenland/page"
)

// sample is a column of a type.
type sample struct {
	l []api.Value
	t int
}

func samples() []sample {
	var all []sample
	r := rand.New(rand.NewSource(17))
	for _, typ := range types {
		e := edges(typ)
		for _, l := range [][]api.Value{nil, {}, {null}, {e[0]}, {e[1], e[0], null, e[1]}, times(130, e[1]), e, slices.Concat(e, e)} {
			all = append(all, sample{l, typ})
		}
		for range 12 {
			all = append(all, sample{anyColumn(r, typ, r.Intn(300)), typ})
		}
	}
	// What is refused, too.
	return append(all, sample{nums(2), api.Bool}, sample{texts("a"), api.Int}, sample{times(1025, null), api.Int}, sample{nums(5), 0},
		sample{nums(5), api.Nest}, sample{[]api.Value{null, {Null: true, N: 3}}, api.Text})
}

// roomyColumn is a copy of a column with other values behind its end, and with them.
func roomyColumn(l []api.Value) (column, whole []api.Value) {
	whole = append(slices.Clone(l), num(-77), text("room"), null, api.Value{Null: true, N: 5}, num(3), num(3))
	return whole[:len(l)], whole
}

// roomyBytes is a copy of bytes with others behind their end, and with them.
func roomyBytes(b []byte) (content, whole []byte) {
	whole = append(slices.Clone(b), bytes.Repeat([]byte{0x55}, 300)...)
	return whole[:len(b)], whole
}

// spoil writes to every byte of a slice and to the room behind it.
func spoil(b []byte) {
	b = b[:cap(b)]
	for i := range b {
		b[i] ^= 0xEE
	}
}

// spoilColumn writes to every value of a slice and to the room behind it.
func spoilColumn(l []api.Value) {
	l = l[:cap(l)]
	for i := range l {
		l[i] = api.Value{N: -99, S: "spoiled"}
	}
}

// A5 and P2: Encode and Best leave the column, and the room behind it, as it was, and do not look into the room. What they
// return is not changed by the column, nor the column by it.
func TestEncodeIsSeparate(t *testing.T) {
	for _, x := range samples() {
		column, whole := roomyColumn(x.l)
		kept := slices.Clone(whole)
		for _, kind := range append(slices.Clone(kinds), 0, 5) {
			want, wantErr := wantEncode(x.l, x.t, kind)
			p, err := page.Encode(column, x.t, kind)
			if err != wantErr || !equal(p, want) {
				t.Errorf("Encode(%s, %d, %d) = %s, %v", show(x.l), x.t, kind, showPage(p), err)
			}
			best, _ := page.Best(column, x.t)
			second, _ := page.Encode(column, x.t, kind)
			if !slices.Equal(whole, kept) {
				t.Fatalf("%s is changed", show(x.l))
			}
			wantBest := bytes.Clone(best.B)
			spoilColumn(whole)
			if !bytes.Equal(p.B, want.B) || !bytes.Equal(best.B, wantBest) {
				t.Errorf("the page of %s changes with it", show(x.l))
			}
			spoil(append(p.B, 1))
			spoil(p.B)
			if !bytes.Equal(second.B, want.B) || !bytes.Equal(best.B, wantBest) {
				t.Errorf("two pages of %s share memory", show(x.l))
			}
			spoil(best.B)
			if !bytes.Equal(second.B, want.B) {
				t.Errorf("the best page of %s shares memory with another one", show(x.l))
			}
			copy(whole, kept)
		}
	}
}

// A5 and P2: Decode leaves the page as it was, and a column does not change with the page, nor with another column.
func TestDecodeIsSeparate(t *testing.T) {
	for _, x := range samples() {
		for _, kind := range kinds {
			p, err := wantEncode(x.l, x.t, kind)
			if err != api.OK {
				continue
			}
			content, whole := roomyBytes(p.B)
			kept := bytes.Clone(whole)
			p.B = content
			l, err := page.Decode(p, x.t)
			second, _ := page.Decode(p, x.t)
			if err != api.OK || !slices.Equal(l, x.l) || !slices.Equal(second, x.l) {
				t.Errorf("Decode(%s, %d) = %s, %v", showPage(p), x.t, show(l), err)
			}
			if !bytes.Equal(whole, kept) {
				t.Errorf("%s is changed", showPage(p))
			}
			spoil(whole)
			spoilColumn(append(l, null))
			spoilColumn(l)
			if !slices.Equal(second, x.l) {
				t.Errorf("the column %s changes with its page or another column", show(x.l))
			}
			third, _ := page.Decode(api.Page{Kind: kind, Rows: len(x.l), B: kept[:len(p.B)]}, x.t)
			if !slices.Equal(third, x.l) {
				t.Errorf("a column of %s is %s after another one was changed", showPage(p), show(third))
			}
		}
	}
}

// A5 and P2: Decode leaves what it refuses as it was.
func TestDecodeLeavesDamagedPages(t *testing.T) {
	for _, x := range samples() {
		for _, kind := range kinds {
			p, err := wantEncode(x.l, x.t, kind)
			if err != api.OK {
				continue
			}
			for _, b := range [][]byte{p.B, append(bytes.Clone(p.B), 0), p.B[:len(p.B)/2]} {
				content, whole := roomyBytes(b)
				kept := bytes.Clone(whole)
				for _, typ := range append(otherTypes, types...) {
					for _, rows := range []int{-1, p.Rows, p.Rows + 1, 1024} {
						page.Decode(api.Page{Kind: kind, Rows: rows, B: content}, typ)
					}
				}
				if !bytes.Equal(whole, kept) {
					t.Errorf("%s is changed", showPage(p))
				}
			}
		}
	}
}

// A5 and P2: Put leaves its arguments as they were, up to their capacity, and its result is separate from them and from
// other results.
func TestPutIsSeparate(t *testing.T) {
	for _, p := range pages(t) {
		for _, n := range []int{0, 1, 3, 100} {
			b, whole := roomyBytes(bytes.Repeat([]byte{0x55}, n))
			content, wholePage := roomyBytes(p.B)
			keptPage := bytes.Clone(wholePage)
			q := api.Page{Kind: p.Kind, Rows: p.Rows, B: content}
			want := wantPut(b, q)
			first, second := page.Put(b, q), page.Put(b, q)
			third := page.Put(first, q)
			if !bytes.Equal(first, want) || !bytes.Equal(third, wantPut(want, q)) {
				t.Errorf("Put(%d bytes, %s) = %s", n, showPage(p), showBytes(first))
			}
			spoil(append(first, 1, 2, 3))
			spoil(first)
			if bytes.Count(whole, []byte{0x55}) != n+300 || !bytes.Equal(wholePage, keptPage) {
				t.Errorf("Put(%d bytes, %s) changes its arguments, or its result has their memory", n, showPage(p))
			}
			spoil(whole)
			spoil(wholePage)
			if !bytes.Equal(second, want) || !bytes.Equal(third[:len(want)], want) {
				t.Errorf("a result of Put(%d bytes, %s) changes with an argument or another result", n, showPage(p))
			}
		}
	}
}

// A5 and P2: Get leaves the bytes as they were, and a page does not change with them, nor with another page.
func TestGetIsSeparate(t *testing.T) {
	for _, p := range pages(t) {
		b, whole := roomyBytes(wantPut([]byte{1, 2}, p))
		kept := bytes.Clone(whole)
		first, _, _ := page.Get(b, 2)
		second, _, _ := page.Get(b, 2)
		for at := -1; at < min(len(b), 20)+2; at++ {
			page.Get(b, at)
		}
		if !bytes.Equal(whole, kept) {
			t.Errorf("Get of %s changes its argument", showPage(p))
		}
		spoil(append(first.B, 1, 2, 3))
		spoil(first.B)
		if !bytes.Equal(whole, kept) {
			t.Errorf("the page %s has memory of the argument", showPage(p))
		}
		spoil(whole)
		if !equal(second, p) {
			t.Errorf("the page %s changes with the argument or another page", showPage(p))
		}
	}
}

// P2: nil and empty slices are interchangeable.
func TestNilAndEmpty(t *testing.T) {
	for _, typ := range types {
		for _, kind := range kindsOf(typ) {
			var want []byte
			if kind == api.Dict {
				want = []byte{0}
			}
			for _, l := range [][]api.Value{nil, {}, make([]api.Value, 0, 9)} {
				encodes(t, l, typ, kind, want)
				if p, err := page.Best(l, typ); err != api.OK || !equal(p, api.Page{Kind: api.Plain}) {
					t.Errorf("Best of no values: %s, %v", showPage(p), err)
				}
			}
			for _, b := range [][]byte{nil, {}, make([]byte, 0, 9)} {
				agrees(t, api.Page{Kind: kind, B: b}, typ)
				agrees(t, api.Page{Kind: kind, Rows: 1, B: b}, typ)
				if q := page.Put(b, api.Page{Kind: kind, B: b}); !bytes.Equal(q, []byte{byte(kind), 0, 0}) {
					t.Errorf("Put: %v", q)
				}
			}
		}
	}
}

// P2: the same arguments have the same results, in any order of calls, and at the same time.
func TestCallsAtTheSameTime(t *testing.T) {
	l := samples()
	type results struct {
		pages   [5]api.Page
		columns [5][]api.Value
		errs    [10]api.Errno
		put     []byte
		got     api.Page
	}
	callAll := func(i int) (x results) {
		for k, kind := range append(slices.Clone(kinds), 0) {
			x.pages[k], x.errs[k] = page.Encode(l[i].l, l[i].t, kind)
			x.columns[k], x.errs[5+k] = page.Decode(x.pages[k], l[i].t)
		}
		best, _ := page.Best(l[i].l, l[i].t)
		x.put = page.Put(x.pages[0].B, best)
		x.got, _, _ = page.Get(x.put, len(x.pages[0].B))
		return x
	}
	var want []results
	for i := range l {
		want = append(want, callAll(i))
	}
	same := func(x, y results) bool {
		return slices.EqualFunc(x.pages[:], y.pages[:], equal) && slices.EqualFunc(x.columns[:], y.columns[:], slices.Equal) &&
			x.errs == y.errs && bytes.Equal(x.put, y.put) && equal(x.got, y.got)
	}
	var wait sync.WaitGroup
	for n := range 8 {
		wait.Go(func() {
			for k := range l {
				i := (k*(2*n+1) + n) % len(l)
				if !same(callAll(i), want[i]) {
					t.Errorf("other results for %s of the type %d", show(l[i].l), l[i].t)
				}
			}
		})
	}
	wait.Wait()
}

// P1: all functions return for arguments that are very long.
func TestLongArguments(t *testing.T) {
	long := times(3000000, null)
	for _, kind := range kinds {
		encodeFails(t, long, api.Int, kind, api.ErrBig)
	}
	bestFails(t, long, api.Day, api.ErrBig)
	const size = 1 << 22
	for _, unit := range [][]byte{{0}, {1}, {255}, {128}, {0, 0}, {0, 1, 10}, {1, 1, 1, 10}, {127, 0}, {1, 0}} {
		b := bytes.Repeat(unit, size/len(unit))
		for _, typ := range types {
			for _, kind := range kindsOf(typ) {
				for _, rows := range []int{0, 1, 1024, 1025} {
					decodeFails(t, api.Page{Kind: kind, Rows: rows, B: b}, typ, api.ErrPage)
				}
			}
		}
		p := api.Page{Kind: 1, Rows: 1, B: b}
		put := page.Put(b, p)
		if len(put) != 2*len(b)+6 || !bytes.Equal(put[:len(b)], b) || !bytes.Equal(put[len(b)+6:], b) {
			t.Errorf("Put: %d bytes", len(put))
		}
		getFails(t, put, len(b), api.ErrBig)
	}
}
