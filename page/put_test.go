package page_test

import (
	"bytes"
	"math/rand"
	"slices"
	"testing"

	"fenland/api"
	"fenland/page"
)

// pages are pages of all kinds and types, and others that Encode does not return.
func pages(t *testing.T) []api.Page {
	t.Helper()
	var l []api.Page
	r := rand.New(rand.NewSource(8))
	for _, typ := range types {
		for _, kind := range kindsOf(typ) {
			for _, n := range []int{0, 1, 9, 127, 128, 1024} {
				l = append(l, encode(t, anyColumn(r, typ, n), typ, kind))
			}
		}
	}
	for _, n := range []int{0, 1, 2, 127, 128, 129, 16383, 16384, 1 << 20} {
		l = append(l, api.Page{Kind: 1 + n%4, Rows: n % 1025, B: bytes.Repeat([]byte{200}, n)})
	}
	return l
}

// P10.1, A4: Put and Get of pages, behind and before other bytes.
func TestPutAndGet(t *testing.T) {
	for _, p := range pages(t) {
		for _, before := range [][]byte{nil, {}, {7}, {128, 0, 255}, make([]byte, 300)} {
			b := page.Put(before, p)
			if want := wantPut(before, p); !bytes.Equal(b, want) {
				t.Errorf("Put(%s, %s) = %s", showBytes(before), showPage(p), showBytes(b))
			}
			for _, after := range [][]byte{nil, {0}, {1, 2, 3}, {128}} {
				whole := slices.Concat(b, after)
				if q, next, err := page.Get(whole, len(before)); err != api.OK || next != len(b) || !equal(p, q) {
					t.Errorf("Get(%s, %d) = %s, %d, %v", showBytes(whole), len(before), showPage(q), next, err)
				}
			}
		}
	}
}

// P10.1, A4: the bytes of a put page, by hand.
func TestPut(t *testing.T) {
	for _, x := range []struct {
		p    api.Page
		want []byte
	}{
		{api.Page{}, []byte{0, 0, 0}},
		{api.Page{Kind: 3, Rows: 2, B: []byte{9, 9}}, []byte{3, 2, 2, 9, 9}},
		{api.Page{Kind: 1, B: []byte{}}, []byte{1, 0, 0}},
		{api.Page{Kind: 4, Rows: 1024, B: []byte{128, 8, 0}}, []byte{4, 128, 8, 3, 128, 8, 0}},
		{api.Page{Kind: 127, Rows: 128}, []byte{127, 128, 1, 0}},
		{api.Page{Kind: 300, Rows: 1025, B: []byte{1}}, []byte{172, 2, 129, 8, 1, 1}},
		{api.Page{Kind: -1, Rows: -2}, slices.Concat(most, []byte{254}, most[1:], []byte{0})},
		{api.Page{Kind: least, Rows: least}, slices.Concat(half, half, []byte{0})},
		{api.Page{Kind: greatest, Rows: greatest, B: []byte{0}}, []byte{
			255, 255, 255, 255, 255, 255, 255, 255, 127, 255, 255, 255, 255, 255, 255, 255, 255, 127, 1, 0}},
		{api.Page{Kind: 2, Rows: 1, B: make([]byte, 128)}, append([]byte{2, 1, 128, 1}, make([]byte, 128)...)},
		{api.Page{Kind: 2, Rows: 1, B: make([]byte, 1<<20+1)}, append([]byte{2, 1, 129, 128, 64}, make([]byte, 1<<20+1)...)},
	} {
		for _, b := range [][]byte{nil, {}, {5}, {128, 128}, append(make([]byte, 0, 100), 6)} {
			if got := page.Put(b, x.p); !bytes.Equal(got, slices.Concat(b, x.want)) {
				t.Errorf("Put(%v, %s) = %s", b, showPage(x.p), showBytes(got))
			}
		}
	}
}

// P10.1, A4: pages that were put one after the other are read one after the other.
func TestGetSequence(t *testing.T) {
	var b []byte
	for _, p := range pages(t) {
		b = page.Put(b, p)
	}
	at := 0
	for i, p := range pages(t) {
		q, next, err := page.Get(b, at)
		if err != api.OK || !equal(p, q) {
			t.Fatalf("page %d at %d: %s, %v instead of %s", i, at, showPage(q), err, showPage(p))
		}
		at = next
	}
	if at != len(b) {
		t.Errorf("the last page ends at %d of %d", at, len(b))
	}
	getFails(t, b, len(b), api.ErrShort)
}

// P10.1, A4: the bytes of a page are not examined.
func TestGetDoesNotExamine(t *testing.T) {
	for _, p := range []api.Page{
		{Kind: 1, Rows: 1024}, {Kind: 2}, {Kind: 3, Rows: 2, B: []byte{4, 10, 10}}, {Kind: 4, Rows: 1, B: []byte{0, 0, 128}},
		{Kind: 1, Rows: 0, B: bytes.Repeat([]byte{255}, 1<<20)},
	} {
		b := page.Put(nil, p)
		if q, next, err := page.Get(b, 0); err != api.OK || next != len(b) || !equal(p, q) {
			t.Errorf("Get(%s, 0) = %s, %d, %v", showBytes(b), showPage(q), next, err)
		}
		for _, typ := range types {
			if kind := p.Kind; slices.Contains(kindsOf(typ), kind) {
				decodeFails(t, p, typ, api.ErrPage)
			}
		}
	}
}

// P10.1, A4: the offsets.
func TestOffsets(t *testing.T) {
	for _, b := range [][]byte{nil, {}, {1}, {0, 0, 0}, {1, 0, 0}, {128}, {5, 128, 0}, tooMany} {
		for _, at := range []int{-1, -2, least, len(b) + 1, len(b) + 2, greatest} {
			getFails(t, b, at, api.ErrArg)
		}
		getFails(t, b, len(b), api.ErrShort)
		getFails(t, append(b, 1, 0, 0)[:len(b)], len(b)+1, api.ErrArg)
		getFails(t, append(b, 1, 0, 0)[:len(b)], len(b), api.ErrShort)
	}
	b := []byte{1, 2, 1, 0, 0}
	for at, want := range []struct {
		kind, rows, next int
		err              api.Errno
	}{{1, 2, 4, 0}, {2, 1, 4, 0}, {1, 0, 5, 0}, {err: api.ErrPage}, {err: api.ErrPage}, {err: api.ErrShort}} {
		p, next, err := page.Get(b, at)
		if p.Kind != want.kind || p.Rows != want.rows || next != want.next || err != want.err {
			t.Errorf("Get(%v, %d) = %s, %d, %v", b, at, showPage(p), next, err)
		}
	}
}

// P10.1, A4: each error of Get alone, and which of several comes first.
func TestGetErrors(t *testing.T) {
	type part struct {
		b   []byte
		err api.Errno
	}
	forms := []part{
		{[]byte{128, 0}, api.ErrForm}, {[]byte{129, 0}, api.ErrForm}, {[]byte{129, 128, 0}, api.ErrForm}, {tooMany, api.ErrForm},
		{slices.Concat(most[:9], []byte{128}), api.ErrForm}, {slices.Concat(most[:9], []byte{0}), api.ErrForm},
	}
	beyond := []part{
		{[]byte{129, 8}, api.ErrPage}, {[]byte{128, 16}, api.ErrPage}, {[]byte{255, 255, 3}, api.ErrPage}, {half, api.ErrPage}, {most, api.ErrPage},
		{[]byte{255, 255, 255, 255, 255, 255, 255, 255, 127}, api.ErrPage}, {[]byte{129, 128, 128, 128, 16}, api.ErrPage},
		{[]byte{129, 128, 4}, api.ErrPage},
	}
	kinds := slices.Concat(forms, beyond, []part{
		{b: []byte{1}}, {b: []byte{2}}, {b: []byte{3}}, {b: []byte{4}}, {[]byte{0}, api.ErrPage}, {[]byte{5}, api.ErrPage}, {[]byte{6}, api.ErrPage},
		{[]byte{127}, api.ErrPage}, {[]byte{128, 1}, api.ErrPage}, {[]byte{128, 2}, api.ErrPage}, {[]byte{129, 2}, api.ErrPage}, {[]byte{128, 8}, api.ErrPage},
	})
	rows := slices.Concat(forms, beyond, []part{{b: []byte{0}}, {b: []byte{1}}, {b: []byte{255, 7}}, {b: []byte{128, 8}}})
	contents := append(slices.Clone(forms), []part{
		{b: []byte{0}}, {b: []byte{1, 128}}, {b: []byte{3, 1, 2, 3}}, {[]byte{1}, api.ErrShort}, {[]byte{3, 1, 2}, api.ErrShort},
		{[]byte{128, 128, 64}, api.ErrShort}, {[]byte{129, 128, 64}, api.ErrBig}, {half, api.ErrBig}, {most, api.ErrBig}, {[]byte{128, 128, 128, 128, 16}, api.ErrBig},
	}...)
	for _, k := range kinds {
		for _, n := range rows {
			for _, c := range contents {
				before := []byte{128, 1, 0}
				b := slices.Concat(before, k.b, n.b, c.b)
				want := api.OK
				for _, x := range []part{c, n, k} {
					if x.err != api.OK {
						want = x.err
					}
				}
				if want != api.OK {
					getFails(t, b, len(before), want)
				} else if _, next, err := page.Get(b, len(before)); err != api.OK || next != len(b) {
					t.Errorf("Get(%v, 3): %d, %v", b, next, err)
				}
			}
		}
	}
}

// P10.1, A4: every beginning of a put page is short, unless it is an error before.
func TestBeginnings(t *testing.T) {
	for _, p := range []api.Page{
		{Kind: 1, Rows: 1, B: []byte{0, 10}}, {Kind: 4, Rows: 1024, B: []byte{128, 8, 0}}, {Kind: 3, Rows: 128, B: make([]byte, 300)}, {Kind: 2, B: []byte{0}},
	} {
		b := page.Put(nil, p)
		for end := range len(b) {
			getFails(t, b[:end], 0, api.ErrShort)
			getFails(t, slices.Concat([]byte{9, 9}, b[:end]), 2, api.ErrShort)
		}
	}
	for _, p := range []api.Page{{Kind: 5, Rows: 1, B: []byte{0}}, {Kind: 0, Rows: 1, B: []byte{0}}} {
		b := page.Put(nil, p)
		getFails(t, b[:0], 0, api.ErrShort)
		for end := 1; end <= len(b); end++ {
			getFails(t, b[:end], 0, api.ErrPage)
		}
	}
	b := page.Put(nil, api.Page{Kind: 1, Rows: 1025, B: []byte{0, 0}})
	for end := range b {
		want := api.ErrShort
		if end > 2 {
			want = api.ErrPage
		}
		getFails(t, b[:end], 0, want)
	}
}

// P10.1, A4: a kind or a number of rows that Get refuses can be put.
func TestPutOfAnyPage(t *testing.T) {
	for _, n := range []int{-1, -1024, least, least + 1, 5, 255, 256, 257, 1025, 1 << 16, 1 << 32, 1<<32 + 1, greatest} {
		getFails(t, page.Put([]byte{1}, api.Page{Kind: n, Rows: 1, B: []byte{3}}), 1, api.ErrPage)
		if n < 0 || n > 1024 {
			getFails(t, page.Put([]byte{1}, api.Page{Kind: 1, Rows: n, B: []byte{3}}), 1, api.ErrPage)
		}
	}
	getFails(t, page.Put(nil, api.Page{}), 0, api.ErrPage)
	getFails(t, page.Put(nil, api.Page{Kind: 1, Rows: 1, B: make([]byte, 1<<20+1)}), 0, api.ErrBig)
}

// P10.1, A4: any bytes.
func TestGetAnyBytes(t *testing.T) {
	r := rand.New(rand.NewSource(7))
	edges := []byte{0, 1, 2, 3, 4, 5, 7, 8, 127, 128, 129, 254, 255}
	found := 0
	for range 300000 {
		b := make([]byte, r.Intn(14))
		for i := range b {
			b[i] = pick(r, edges)
		}
		at := r.Intn(len(b)+3) - 1
		want, wantNext, wantErr := wantGet(b, at)
		p, next, err := page.Get(b, at)
		if err != wantErr || next != wantNext || !equal(p, want) {
			t.Fatalf("Get(%v, %d) = %s, %d, %v instead of %s, %d, %v", b, at, showPage(p), next, err, showPage(want), wantNext, wantErr)
		}
		if err == api.OK {
			found++
			if !bytes.Equal(page.Put(nil, p), b[at:next]) {
				t.Fatalf("Get(%v, %d) = %s is not what Put writes", b, at, showPage(p))
			}
		}
	}
	if found < 5000 {
		t.Errorf("only %d pages", found)
	}
}
