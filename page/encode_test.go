package page_test

import (
	"math"
	"math/rand"
	"slices"
	"strings"
	"testing"

	"fenland/api"
	"fenland/page"
)

// P10.1, P10.2: the section 'Examples'.
func TestExamples(t *testing.T) {
	withNull := []api.Value{num(5), null, num(5)}
	encodes(t, withNull, api.Int, api.Plain, []byte{2, 10, 10})
	encodes(t, withNull, api.Int, api.Dict, []byte{1, 10, 1, 0, 1})
	encodes(t, []api.Value{num(5), null, num(7)}, api.Int, api.Delta, []byte{2, 10, 4})
	encodes(t, []api.Value{num(5), num(5), null}, api.Int, api.Runs, []byte{2, 1, 10, 1, 0})
	if p, err := page.Best(withNull, api.Int); err != api.OK || !equal(p, api.Page{Kind: api.Plain, Rows: 3, B: []byte{2, 10, 10}}) {
		t.Errorf("Best: %s, %v", showPage(p), err)
	}
	decodeFails(t, api.Page{Kind: api.Plain, Rows: 2, B: []byte{4, 10, 10}}, api.Int, api.ErrPage)
}

// P10.1, A1: Plain, by hand.
func TestPlain(t *testing.T) {
	encodes(t, nil, api.Bool, api.Plain, nil)
	encodes(t, nil, api.Text, api.Plain, nil)
	encodes(t, []api.Value{null}, api.Text, api.Plain, []byte{1})
	encodes(t, nums(0), api.Bool, api.Plain, []byte{0, 0})
	encodes(t, nums(1), api.Bool, api.Plain, []byte{0, 2})
	encodes(t, nums(-1, 64, -64, -65), api.Small, api.Plain, []byte{0, 1, 128, 1, 127, 129, 1})
	encodes(t, nums(math.MinInt32, math.MaxInt32), api.Small, api.Plain, []byte{0, 255, 255, 255, 255, 15, 254, 255, 255, 255, 15})
	encodes(t, nums(-1000000, 1000000), api.Day, api.Plain, []byte{0, 255, 136, 122, 128, 137, 122})
	encodes(t, nums(least), api.Int, api.Plain, []byte{0, 255, 255, 255, 255, 255, 255, 255, 255, 255, 1})
	encodes(t, nums(greatest), api.Int, api.Plain, []byte{0, 254, 255, 255, 255, 255, 255, 255, 255, 255, 1})
	encodes(t, texts("", "ab", "\x00\xff"), api.Text, api.Plain, []byte{0, 0, 2, 97, 98, 2, 0, 255})
	encodes(t, texts(xs(200)), api.Text, api.Plain, append([]byte{0, 200, 1}, xs(200)...))
	encodes(t, append(times(7, null), num(3)), api.Int, api.Plain, []byte{127, 6})
	encodes(t, append(times(7, num(3)), null), api.Int, api.Plain, []byte{128, 6, 6, 6, 6, 6, 6, 6})
	encodes(t, times(8, null), api.Int, api.Plain, []byte{255})
	encodes(t, times(9, null), api.Int, api.Plain, []byte{255, 1})
	encodes(t, append(times(8, null), num(3)), api.Day, api.Plain, []byte{255, 0, 6})
	encodes(t, append(times(8, num(3)), null), api.Day, api.Plain, []byte{0, 1, 6, 6, 6, 6, 6, 6, 6, 6})
	encodes(t, times(1024, null), api.Bool, api.Plain, slices.Repeat([]byte{255}, 128))
	encodes(t, times(1023, null), api.Bool, api.Plain, append(slices.Repeat([]byte{255}, 127), 127))
	encodes(t, times(1024, num(1)), api.Bool, api.Plain, append(make([]byte, 128), slices.Repeat([]byte{2}, 1024)...))
	encodes(t, times(1017, num(1)), api.Bool, api.Plain, append(make([]byte, 128), slices.Repeat([]byte{2}, 1017)...))
}

// P10.1, A1: Dict, by hand.
func TestDict(t *testing.T) {
	encodes(t, nil, api.Int, api.Dict, []byte{0})
	encodes(t, nil, api.Text, api.Dict, []byte{0})
	encodes(t, []api.Value{null, null}, api.Text, api.Dict, []byte{0, 0, 0})
	encodes(t, nums(0), api.Bool, api.Dict, []byte{1, 0, 1})
	encodes(t, nums(1), api.Bool, api.Dict, []byte{1, 2, 1})
	encodes(t, nums(1, 0, 1, 1), api.Bool, api.Dict, []byte{2, 0, 2, 2, 1, 2, 2})
	encodes(t, []api.Value{null, num(0)}, api.Int, api.Dict, []byte{1, 0, 0, 1})
	encodes(t, nums(7, 5, 7), api.Int, api.Dict, []byte{2, 10, 14, 2, 1, 2})
	encodes(t, nums(9, 3, -3, -9, 0), api.Day, api.Dict, []byte{5, 17, 5, 0, 6, 18, 5, 4, 2, 1, 3})
	encodes(t, nums(greatest, 0, least), api.Int, api.Dict, slices.Concat([]byte{3},
		[]byte{255, 255, 255, 255, 255, 255, 255, 255, 255, 1}, []byte{0},
		[]byte{254, 255, 255, 255, 255, 255, 255, 255, 255, 1}, []byte{3, 2, 1}))
	encodes(t, texts("b", "ab", "b"), api.Text, api.Dict, []byte{2, 2, 97, 98, 1, 98, 2, 1, 2})
	encodes(t, append(texts("ab", "a", "", "b", "a\x00"), null), api.Text, api.Dict,
		[]byte{5, 0, 1, 97, 2, 97, 0, 2, 97, 98, 1, 98, 4, 2, 1, 5, 3, 0})
	encodes(t, texts("\xff", "a", "\x80", "Z"), api.Text, api.Dict, []byte{4, 1, 90, 1, 97, 1, 128, 1, 255, 4, 2, 3, 1})
	encodes(t, times(1024, null), api.Int, api.Dict, make([]byte, 1025))
	encodes(t, times(1024, num(-1)), api.Int, api.Dict, slices.Concat([]byte{1, 1}, slices.Repeat([]byte{1}, 1024)))
}

// P10.1, A1: dictionaries of as many values as need two bytes for their numbers, and of fewer.
func TestSizesOfDictionaries(t *testing.T) {
	for _, d := range []int{1, 63, 64, 65, 126, 127, 128, 129, 255, 256, 257, 1000, 1023, 1024} {
		l := counted(d)
		var want []byte
		if d < 128 {
			want = []byte{byte(d)}
		} else {
			want = []byte{byte(128 + d%128), byte(d / 128)}
		}
		for i := range d {
			if i < 64 {
				want = append(want, byte(2*i))
			} else {
				want = append(want, byte(128+2*i%128), byte(2*i/128))
			}
		}
		places := make([][]byte, d)
		for i := range d {
			places[i] = []byte{byte(i + 1)}
			if i+1 >= 128 {
				places[i] = []byte{byte(128 + (i+1)%128), byte((i + 1) / 128)}
			}
		}
		encodes(t, l, api.Int, api.Dict, slices.Concat(want, slices.Concat(places...)))
		slices.Reverse(l)
		slices.Reverse(places)
		encodes(t, l, api.Small, api.Dict, slices.Concat(want, slices.Concat(places...)))
	}
}

// P10.1, A1: Delta, by hand.
func TestDelta(t *testing.T) {
	encodes(t, nil, api.Int, api.Delta, nil)
	encodes(t, []api.Value{null, null}, api.Int, api.Delta, []byte{3})
	encodes(t, nums(-5), api.Small, api.Delta, []byte{0, 9})
	encodes(t, nums(7, 5, 7), api.Int, api.Delta, []byte{0, 14, 3, 4})
	encodes(t, nums(7, 7, 7), api.Int, api.Delta, []byte{0, 14, 0, 0})
	encodes(t, nums(0, 1, 0, 1, 1), api.Bool, api.Delta, []byte{0, 0, 2, 1, 2, 0})
	encodes(t, []api.Value{null, num(5), null, null, num(7)}, api.Int, api.Delta, []byte{13, 10, 4})
	encodes(t, []api.Value{num(5), null, num(5)}, api.Int, api.Delta, []byte{2, 10, 0})
	encodes(t, []api.Value{null, null, num(5), num(4), null}, api.Day, api.Delta, []byte{19, 10, 1})
	encodes(t, append(append(nums(100), times(8, null)...), num(99)), api.Small, api.Delta, []byte{254, 1, 200, 1, 1})
	encodes(t, nums(-1000000, 1000000), api.Day, api.Delta, []byte{0, 255, 136, 122, 128, 146, 244, 1})
	encodes(t, nums(math.MinInt32, math.MaxInt32), api.Small, api.Delta, []byte{0, 255, 255, 255, 255, 15, 254, 255, 255, 255, 31})
}

// P10.1, A1: differences that no signed number is.
func TestDifferencesThatAreTooGreat(t *testing.T) {
	min, max := []byte{255, 255, 255, 255, 255, 255, 255, 255, 255, 1}, []byte{254, 255, 255, 255, 255, 255, 255, 255, 255, 1}
	encodes(t, nums(greatest, least), api.Int, api.Delta, slices.Concat([]byte{0}, max, []byte{2}))
	encodes(t, nums(least, greatest), api.Int, api.Delta, slices.Concat([]byte{0}, min, []byte{1}))
	encodes(t, nums(least, 0), api.Int, api.Delta, slices.Concat([]byte{0}, min, min))
	encodes(t, nums(0, least), api.Int, api.Delta, slices.Concat([]byte{0, 0}, min))
	encodes(t, nums(-1, greatest), api.Int, api.Delta, slices.Concat([]byte{0, 1}, min))
	encodes(t, nums(greatest, -1), api.Int, api.Delta, slices.Concat([]byte{0}, max, min))
	encodes(t, nums(-2, greatest), api.Int, api.Delta, []byte{0, 3, 253, 255, 255, 255, 255, 255, 255, 255, 255, 1})
	encodes(t, []api.Value{null, num(greatest), null, num(least), num(greatest), null}, api.Int, api.Delta,
		slices.Concat([]byte{37}, max, []byte{2, 1}))
}

// P10.1, A1: Runs, by hand.
func TestRuns(t *testing.T) {
	encodes(t, nil, api.Int, api.Runs, nil)
	encodes(t, []api.Value{null}, api.Text, api.Runs, []byte{1, 0})
	encodes(t, []api.Value{null, null, null}, api.Text, api.Runs, []byte{3, 0})
	encodes(t, nums(0, 0), api.Bool, api.Runs, []byte{2, 1, 0})
	encodes(t, []api.Value{null, num(0), num(0), null}, api.Int, api.Runs, []byte{1, 0, 2, 1, 0, 1, 0})
	encodes(t, nums(5, 7, 5, 5), api.Int, api.Runs, []byte{1, 1, 10, 1, 1, 14, 2, 1, 10})
	encodes(t, []api.Value{num(5), null, num(5)}, api.Int, api.Runs, []byte{1, 1, 10, 1, 0, 1, 1, 10})
	encodes(t, texts("", "", "a", "a", "ab", "a"), api.Text, api.Runs, []byte{2, 1, 0, 2, 1, 1, 97, 1, 1, 2, 97, 98, 1, 1, 1, 97})
	encodes(t, append([]api.Value{null, null}, text("")), api.Text, api.Runs, []byte{2, 0, 1, 1, 0})
	for n, size := range map[int][]byte{1: {1}, 127: {127}, 128: {128, 1}, 255: {255, 1}, 256: {128, 2}, 1023: {255, 7}, 1024: {128, 8}} {
		encodes(t, times(n, num(-3)), api.Small, api.Runs, slices.Concat(size, []byte{1, 5}))
		encodes(t, times(n, null), api.Text, api.Runs, slices.Concat(size, []byte{0}))
		if n < 1024 {
			encodes(t, append(times(n, null), num(9)), api.Day, api.Runs, slices.Concat(size, []byte{0, 1, 1, 18}))
			encodes(t, append(nums(9), times(n, num(8))...), api.Day, api.Runs, slices.Concat([]byte{1, 1, 18}, size, []byte{1, 16}))
		}
	}
	encodes(t, append(times(512, num(1)), times(512, num(0))...), api.Bool, api.Runs, []byte{128, 4, 1, 2, 128, 4, 1, 0})
}

// P10.1 and P10.2, for all columns, types and kinds: the bytes of A1, which are decoded as the column.
func TestEncode(t *testing.T) {
	t.Parallel()
	for _, typ := range types {
		for _, l := range columns(typ) {
			for _, kind := range kindsOf(typ) {
				want, _ := wantEncode(l, typ, kind)
				encodes(t, l, typ, kind, want.B)
			}
		}
	}
}

// P10.1 and P10.2: all columns of up to five values, of which each is a null or one of three.
func TestSmallColumns(t *testing.T) {
	for typ, l := range map[int][]api.Value{
		api.Bool: nums(0, 1), api.Small: nums(0, -1, math.MaxInt32), api.Int: nums(least, 0, greatest),
		api.Text: texts("", "a", "ab"), api.Day: nums(-1000000, 64, 1000000),
	} {
		for _, l := range smallColumns(5, append(l, null)...) {
			for _, kind := range kindsOf(typ) {
				want, _ := wantEncode(l, typ, kind)
				encodes(t, l, typ, kind, want.B)
			}
		}
	}
}

// P10.1 and P10.2: columns of each length.
func TestLengths(t *testing.T) {
	t.Parallel()
	r := rand.New(rand.NewSource(10))
	for n := range 1025 {
		for _, typ := range types {
			l := anyColumn(r, typ, n)
			kind := pick(r, kindsOf(typ))
			want, _ := wantEncode(l, typ, kind)
			encodes(t, l, typ, kind, want.B)
		}
	}
}

// P10.1, A1: a column has at most 1024 values, of whatever size.
func TestMostValues(t *testing.T) {
	for _, typ := range types {
		for _, v := range append(edges(typ), null) {
			l := times(1025, v)
			for _, kind := range kindsOf(typ) {
				want, _ := wantEncode(l[:1024], typ, kind)
				encodes(t, l[:1024], typ, kind, want.B)
				encodeFails(t, l, typ, kind, api.ErrBig)
			}
			bestFails(t, l, typ, api.ErrBig)
		}
	}
	var l []api.Value
	for i := range 1024 {
		l = append(l, text(string(rune('a'+i%8))+string(rune('a'+i/8%8))+strings.Repeat(string(rune('a'+i/64)), 198)))
	}
	for _, kind := range kindsOf(api.Text) {
		want, _ := wantEncode(l, api.Text, kind)
		encodes(t, l, api.Text, kind, want.B)
		if len(want.B) < 1024*202 {
			t.Errorf("only %d bytes", len(want.B))
		}
	}
}
