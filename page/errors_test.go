package page_test

import (
	"slices"
	"testing"

	"fenland/api"
	"fenland/page"
)

// validColumn is a column of n values of a type, of each type that there is.
func validColumn(n, typ int) []api.Value {
	var l []api.Value
	for i := range n {
		l = append(l, []api.Value{num(1), num(0), null}[i%3])
		if typ == api.Text && i%3 < 2 {
			l[i] = texts("a", "")[i%3]
		}
	}
	return l
}

// P10.1, A1: each error alone, and which of several comes first, for all kinds, types, lengths and values.
func TestEncodeErrors(t *testing.T) {
	for _, kind := range append(otherKinds, kinds...) {
		for _, typ := range append(otherTypes, types...) {
			for _, n := range []int{0, 1, 2, 3, 1024, 1025, 1026, 2048} {
				good := validColumn(n, typ)
				bad := slices.Clone(good)
				if n > 0 {
					bad[n/2] = api.Value{Null: true, N: 1}
				}
				want, wantBad := api.OK, api.ErrType
				switch {
				case !slices.Contains(kinds, kind):
					want, wantBad = api.ErrArg, api.ErrArg
				case !slices.Contains(types, typ) || kind == api.Delta && typ == api.Text:
					want = api.ErrType
				case n > 1024:
					want, wantBad = api.ErrBig, api.ErrBig
				}
				if want != api.OK {
					encodeFails(t, good, typ, kind, want)
				} else if p, err := page.Encode(good, typ, kind); err != api.OK || p.Rows != n || p.Kind != kind {
					t.Errorf("Encode(%s, %d, %d) = %s, %v", show(good), typ, kind, showPage(p), err)
				}
				if n > 0 {
					encodeFails(t, bad, typ, kind, wantBad)
				}
			}
		}
	}
}

// P10.1, A2: each error alone, and which of several comes first.
func TestBestErrors(t *testing.T) {
	for _, typ := range append(otherTypes, types...) {
		for _, n := range []int{0, 1, 2, 3, 1024, 1025, 1026, 2048} {
			good := validColumn(n, typ)
			bad := slices.Clone(good)
			if n > 0 {
				bad[n/2] = api.Value{Null: true, S: "a"}
			}
			want, wantBad := api.OK, api.ErrType
			switch {
			case !slices.Contains(types, typ):
				want = api.ErrType
			case n > 1024:
				want, wantBad = api.ErrBig, api.ErrBig
			}
			if want != api.OK {
				bestFails(t, good, typ, want)
			} else if p, err := page.Best(good, typ); err != api.OK || p.Rows != n || p.Kind < 1 || p.Kind > 4 {
				t.Errorf("Best(%s, %d) = %s, %v", show(good), typ, showPage(p), err)
			}
			if n > 0 {
				bestFails(t, bad, typ, wantBad)
			}
		}
	}
}

// P10.1, A1 and A2: values that are not valid, wherever they are; a value that is too long comes after the limit.
func TestInvalidValues(t *testing.T) {
	for _, typ := range types {
		for what, v := range invalid(typ) {
			if wantValid(v, typ) {
				t.Fatalf("%s is valid for the type %d", what, typ)
			}
			for _, n := range []int{1, 2, 3, 8, 9, 1023, 1024, 1025} {
				want := api.ErrType
				if n > 1024 {
					want = api.ErrBig
				}
				for _, at := range []int{0, 1, n / 2, n - 2, n - 1} {
					l := validColumn(n, typ)
					l[max(0, min(at, n-1))] = v
					for _, kind := range kindsOf(typ) {
						encodeFails(t, l, typ, kind, want)
					}
					bestFails(t, l, typ, want)
				}
			}
			twice := []api.Value{v, v}
			for _, kind := range kindsOf(typ) {
				encodeFails(t, twice, typ, kind, api.ErrType)
			}
			bestFails(t, twice, typ, api.ErrType)
		}
	}
}

// P10.1, A1: values of one type in a column of another one.
func TestOtherTypes(t *testing.T) {
	for _, from := range types {
		for _, to := range types {
			for _, v := range edges(from) {
				for _, kind := range kindsOf(to) {
					want, wantErr := wantEncode([]api.Value{null, v}, to, kind)
					if p, err := page.Encode([]api.Value{null, v}, to, kind); err != wantErr || !equal(p, want) {
						t.Errorf("Encode(%s, %d, %d) = %s, %v", show([]api.Value{null, v}), to, kind, showPage(p), err)
					}
				}
				want, wantErr := wantBest([]api.Value{v, null}, to)
				if p, err := page.Best([]api.Value{v, null}, to); err != wantErr || !equal(p, want) {
					t.Errorf("Best(%s, %d) = %s, %v", show([]api.Value{v, null}), to, showPage(p), err)
				}
			}
		}
	}
}

// P10.1, A3: each error alone, and which of several comes first, for all kinds, types, numbers of rows and bytes.
func TestDecodeErrors(t *testing.T) {
	bad := [][]byte{nil, {0}, {1}, {0, 128}, {2, 0, 0, 1, 2, 3}, {255, 255, 255, 255, 255, 255, 255, 255, 255, 1}, {5, 5, 5}, make([]byte, 2000)}
	for _, kind := range append(otherKinds, kinds...) {
		for _, typ := range append(otherTypes, types...) {
			for _, rows := range []int{0, 1, 2, 3, 8, 1023, 1024, 1025, 1026, 2048, 1 << 20, greatest, greatest - 6, -1, -2, -8, -1024, least, least + 1} {
				content := bad
				if rows >= 0 && rows <= 2048 {
					q, _ := wantEncode(validColumn(min(rows, 1024), typ), typ, kind)
					content = append(slices.Clip(bad), q.B)
				}
				for _, b := range content {
					p := api.Page{Kind: kind, Rows: rows, B: b}
					if want, err := wantDecode(p, typ); err == api.OK {
						decodes(t, p, typ, want)
					} else {
						decodeFails(t, p, typ, err)
					}
				}
			}
		}
	}
}

// P10.1, A1 to A3: the errors of arguments of which several are wrong, by hand.
func TestOrderOfErrors(t *testing.T) {
	broken, long := []api.Value{{N: 1, S: "a"}}, times(1025, api.Value{N: 1, S: "a"})
	for _, typ := range []int{0, api.Int, api.Text, api.Nest} {
		for _, l := range [][]api.Value{nil, broken, long} {
			encodeFails(t, l, typ, 0, api.ErrArg)
			encodeFails(t, l, typ, 5, api.ErrArg)
			encodeFails(t, l, typ, -1, api.ErrArg)
		}
	}
	for _, l := range [][]api.Value{nil, broken, long} {
		encodeFails(t, l, api.Text, api.Delta, api.ErrType)
		for _, kind := range kinds {
			encodeFails(t, l, 0, kind, api.ErrType)
			encodeFails(t, l, api.Nest, kind, api.ErrType)
		}
		bestFails(t, l, 0, api.ErrType)
		bestFails(t, l, api.Nest, api.ErrType)
	}
	for _, typ := range types {
		for _, kind := range kindsOf(typ) {
			encodeFails(t, broken, typ, kind, api.ErrType)
			encodeFails(t, long, typ, kind, api.ErrBig)
			decodeFails(t, api.Page{Kind: kind, Rows: -1, B: []byte{0}}, typ, api.ErrPage)
			decodeFails(t, api.Page{Kind: kind, Rows: -1}, typ, api.ErrPage)
			decodeFails(t, api.Page{Kind: kind, Rows: 1025, B: []byte{129, 8, 0}}, typ, api.ErrPage)
		}
		bestFails(t, broken, typ, api.ErrType)
		bestFails(t, long, typ, api.ErrBig)
	}
	for _, rows := range []int{-1, 0, 1, 1025} {
		for _, b := range [][]byte{nil, {0}, {1}, {128}} {
			for _, kind := range []int{0, 5, -1} {
				for _, typ := range []int{0, api.Int, api.Text, api.Nest} {
					decodeFails(t, api.Page{Kind: kind, Rows: rows, B: b}, typ, api.ErrArg)
				}
			}
			for _, kind := range kinds {
				decodeFails(t, api.Page{Kind: kind, Rows: rows, B: b}, 0, api.ErrType)
				decodeFails(t, api.Page{Kind: kind, Rows: rows, B: b}, api.Nest, api.ErrType)
			}
			decodeFails(t, api.Page{Kind: api.Delta, Rows: rows, B: b}, api.Text, api.ErrType)
		}
	}
}

// P10.1: rows of 1025 nulls or equal values are refused, although the bytes would do for as many.
func TestTooManyRows(t *testing.T) {
	for _, typ := range types {
		for _, rows := range []int{1025, 1026, 1032} {
			masked := slices.Repeat([]byte{255}, (rows+7)/8)
			if rows%8 > 0 {
				masked[rows/8] = 1<<(rows%8) - 1
			}
			run := []byte{byte(128 + rows%128), byte(rows / 128), 0}
			for kind, b := range map[int][]byte{api.Plain: masked, api.Dict: make([]byte, 1+rows), api.Delta: masked, api.Runs: run} {
				if slices.Contains(kindsOf(typ), kind) {
					decodeFails(t, api.Page{Kind: kind, Rows: rows, B: b}, typ, api.ErrPage)
				}
			}
		}
	}
}
