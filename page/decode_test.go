package page_test

import (
	"bytes"
	"encoding/binary"
	"math/rand"
	"slices"
	"strconv"
	"testing"

	"fenland/api"
	"fenland/page"
)

// the number encodings of 2^63 and of 2^64 - 1, and one of a number that has more than 64 bits.
var (
	half    = []byte{128, 128, 128, 128, 128, 128, 128, 128, 128, 1}
	most    = []byte{255, 255, 255, 255, 255, 255, 255, 255, 255, 1}
	tooMany = []byte{255, 255, 255, 255, 255, 255, 255, 255, 255, 2}
)

// refuses checks that the bytes are no page.
func refuses(t *testing.T, typ, kind, rows int, parts ...[]byte) {
	t.Helper()
	decodeFails(t, api.Page{Kind: kind, Rows: rows, B: slices.Concat(parts...)}, typ, api.ErrPage)
}

// P10.3: bits of the null mask that belong to no value, and masks of other lengths.
func TestDamagedMasks(t *testing.T) {
	for _, typ := range types {
		for _, kind := range kindsOf(typ) {
			if kind != api.Plain && kind != api.Delta {
				continue
			}
			for rows := range 25 {
				size := (rows + 7) / 8
				mask := slices.Repeat([]byte{255}, size)
				if rows%8 > 0 {
					mask[size-1] = 1<<(rows%8) - 1
				}
				decodes(t, api.Page{Kind: kind, Rows: rows, B: mask}, typ, times(rows, null))
				for bit := rows; bit < size*8; bit++ {
					other := slices.Clone(mask)
					other[size-1] |= 1 << (bit % 8)
					refuses(t, typ, kind, rows, other)
					empty := make([]byte, size+rows)
					decodes(t, api.Page{Kind: kind, Rows: rows, B: empty}, typ, times(rows, api.Value{}))
					empty[size-1] = 1 << (bit % 8)
					refuses(t, typ, kind, rows, empty)
				}
				refuses(t, typ, kind, rows, mask, []byte{0})
				refuses(t, typ, kind, rows, mask, []byte{255})
				if rows > 0 {
					refuses(t, typ, kind, rows, mask[1:])
					refuses(t, typ, kind, rows, mask[:size-1])
				}
			}
		}
	}
}

// P10.3: dictionaries that the encoder does not write.
func TestDamagedDictionaries(t *testing.T) {
	for _, typ := range []int{api.Small, api.Int, api.Day} {
		decodes(t, api.Page{Kind: api.Dict, Rows: 2, B: []byte{2, 10, 14, 1, 2}}, typ, nums(5, 7))
		refuses(t, typ, api.Dict, 2, []byte{2, 14, 10, 1, 2})
		refuses(t, typ, api.Dict, 2, []byte{2, 14, 10, 2, 1})
		refuses(t, typ, api.Dict, 2, []byte{2, 0, 1, 1, 2})
		decodes(t, api.Page{Kind: api.Dict, Rows: 2, B: []byte{2, 1, 0, 1, 2}}, typ, nums(-1, 0))
		refuses(t, typ, api.Dict, 2, []byte{2, 10, 10, 1, 2})
		refuses(t, typ, api.Dict, 3, []byte{3, 10, 14, 14, 1, 2, 3})
		refuses(t, typ, api.Dict, 3, []byte{3, 14, 10, 14, 1, 2, 3})
		refuses(t, typ, api.Dict, 1, []byte{2, 10, 14, 1})
		refuses(t, typ, api.Dict, 2, []byte{2, 10, 14, 1, 1})
		refuses(t, typ, api.Dict, 2, []byte{2, 10, 14, 2, 2})
		refuses(t, typ, api.Dict, 2, []byte{2, 10, 14, 0, 0})
		refuses(t, typ, api.Dict, 2, []byte{1, 10, 0, 0})
		refuses(t, typ, api.Dict, 0, []byte{1, 10})
		refuses(t, typ, api.Dict, 1, []byte{1, 10, 2})
		refuses(t, typ, api.Dict, 2, []byte{1, 10, 1, 2})
		refuses(t, typ, api.Dict, 1, []byte{0, 1})
		refuses(t, typ, api.Dict, 1, []byte{1, 10, 127})
		refuses(t, typ, api.Dict, 1, []byte{1, 10}, half)
		refuses(t, typ, api.Dict, 1, []byte{1, 10}, most)
		refuses(t, typ, api.Dict, 1, []byte{1, 10, 129, 0})
		refuses(t, typ, api.Dict, 1, []byte{129, 0, 10, 1})
		refuses(t, typ, api.Dict, 1, []byte{1, 138, 0, 1})
		refuses(t, typ, api.Dict, 1, []byte{1, 10, 128, 0})
		refuses(t, typ, api.Dict, 0)
		refuses(t, typ, api.Dict, 0, []byte{128, 0})
		refuses(t, typ, api.Dict, 1, []byte{0})
		refuses(t, typ, api.Dict, 1, []byte{1})
		refuses(t, typ, api.Dict, 1, []byte{1, 10})
		refuses(t, typ, api.Dict, 1, []byte{1, 10, 1, 1})
		refuses(t, typ, api.Dict, 1, []byte{1, 10, 1, 0})
		for _, d := range [][]byte{half, most, tooMany, {255, 255, 255, 255, 15}, {255, 255, 255, 255, 255, 255, 255, 255, 127}, {128, 8}} {
			refuses(t, typ, api.Dict, 0, d)
			refuses(t, typ, api.Dict, 1, d, []byte{10, 1})
			refuses(t, typ, api.Dict, 1024, d, []byte{10, 1})
		}
	}
	refuses(t, api.Text, api.Dict, 2, []byte{2, 1, 98, 1, 97, 1, 2})
	refuses(t, api.Text, api.Dict, 2, []byte{2, 2, 97, 98, 1, 97, 1, 2})
	refuses(t, api.Text, api.Dict, 2, []byte{2, 1, 255, 1, 97, 1, 2})
	decodes(t, api.Page{Kind: api.Dict, Rows: 2, B: []byte{2, 1, 97, 2, 97, 98, 2, 1}}, api.Text, texts("ab", "a"))
	refuses(t, api.Text, api.Dict, 2, []byte{2, 1, 97, 1, 97, 1, 2})
	refuses(t, api.Text, api.Dict, 2, []byte{2, 0, 0, 1, 2})
	refuses(t, api.Text, api.Dict, 1, []byte{1, 129, 0, 97, 1})
	refuses(t, api.Text, api.Dict, 1, []byte{1, 3, 97, 1})
	refuses(t, api.Text, api.Dict, 1, []byte{1}, most, []byte{1})
	refuses(t, api.Bool, api.Dict, 3, []byte{3, 0, 2, 4, 1, 2, 3})
	refuses(t, api.Bool, api.Dict, 2, []byte{2, 2, 0, 1, 2})
}

// dictOf is a Dict page of numbers with the given dictionary and places.
func dictOf(values []api.Value, places []int) api.Page {
	b := binary.AppendUvarint(nil, uint64(len(values)))
	for _, v := range values {
		b = append(b, wantBare(v, api.Int)...)
	}
	for _, k := range places {
		b = binary.AppendUvarint(b, uint64(k))
	}
	return api.Page{Kind: api.Dict, Rows: len(places), B: b}
}

// P10.3: large dictionaries of which one value is not used, comes twice, or is exchanged with the next one, and places
// without a value.
func TestDamagedLargeDictionaries(t *testing.T) {
	for _, d := range []int{3, 126, 127, 128, 129, 300, 1023, 1024} {
		values := counted(d)
		var places []int
		for k := d; k > 0; k-- {
			places = append(places, k)
		}
		backward := slices.Clone(values)
		slices.Reverse(backward)
		decodes(t, dictOf(values, places), api.Int, backward)
		decodeFails(t, dictOf(backward, places), api.Int, api.ErrPage)
		decodeFails(t, dictOf(append(slices.Clip(values), num(2000)), places), api.Int, api.ErrPage)
		for i := 0; i < d; i += 1 + d/50 {
			for _, k := range []int{0, 1 + (places[i] % d), d + 1, d + 128, 1 << 20} {
				other := slices.Clone(places)
				other[i] = k
				decodeFails(t, dictOf(values, other), api.Int, api.ErrPage)
			}
			next := min(i+1, d-1)
			other := slices.Clone(values)
			other[i], other[next] = other[next], other[i]
			if i < next {
				decodeFails(t, dictOf(other, places), api.Int, api.ErrPage)
				other[next] = other[i]
				decodeFails(t, dictOf(other, places), api.Int, api.ErrPage)
			}
		}
	}
}

// P10.3: runs that the encoder does not write.
func TestDamagedRuns(t *testing.T) {
	for _, typ := range []int{api.Small, api.Int, api.Day} {
		decodes(t, api.Page{Kind: api.Runs, Rows: 3, B: []byte{1, 1, 10, 1, 0, 1, 1, 10}}, typ, []api.Value{num(5), null, num(5)})
		refuses(t, typ, api.Runs, 2, []byte{1, 1, 10, 1, 1, 10})
		refuses(t, typ, api.Runs, 2, []byte{1, 0, 1, 0})
		refuses(t, typ, api.Runs, 4, []byte{1, 0, 1, 1, 10, 2, 1, 10})
		refuses(t, typ, api.Runs, 2, []byte{1, 1, 10, 0, 0, 1, 1, 10})
		refuses(t, typ, api.Runs, 0, []byte{0, 0})
		refuses(t, typ, api.Runs, 0, []byte{0, 1, 10})
		refuses(t, typ, api.Runs, 1, []byte{1, 1, 10, 0, 0})
		refuses(t, typ, api.Runs, 1, []byte{0, 0, 1, 1, 10})
		refuses(t, typ, api.Runs, 1, []byte{0, 1, 10, 1, 1, 10})
		refuses(t, typ, api.Runs, 1, []byte{2, 1, 10})
		refuses(t, typ, api.Runs, 3, []byte{2, 1, 10})
		refuses(t, typ, api.Runs, 0, []byte{1, 1, 10})
		refuses(t, typ, api.Runs, 1024, []byte{128, 8, 1, 10, 1, 0})
		refuses(t, typ, api.Runs, 1024, []byte{255, 7, 1, 10})
		refuses(t, typ, api.Runs, 1024, []byte{255, 7, 1, 10, 2, 0})
		decodes(t, api.Page{Kind: api.Runs, Rows: 1024, B: []byte{255, 7, 1, 10, 1, 0}}, typ, append(times(1023, num(5)), null))
		refuses(t, typ, api.Runs, 1, []byte{129, 0, 1, 10})
		refuses(t, typ, api.Runs, 1, []byte{1, 1, 138, 0})
		refuses(t, typ, api.Runs, 1, []byte{1, 2, 10})
		refuses(t, typ, api.Runs, 1, []byte{1, 255})
		refuses(t, typ, api.Runs, 1, []byte{1, 1})
		refuses(t, typ, api.Runs, 1, []byte{1})
		refuses(t, typ, api.Runs, 1)
		refuses(t, typ, api.Runs, 0, []byte{0})
		refuses(t, typ, api.Runs, 1, []byte{1, 0, 0})
		refuses(t, typ, api.Runs, 1, []byte{1, 0, 1})
		for _, n := range [][]byte{half, most, tooMany, {255, 255, 255, 255, 255, 255, 255, 255, 127}, {128, 128, 128, 128, 16}, {129, 128, 128, 128, 16}} {
			for _, rows := range []int{least, -1024, -1, 0, 1, 2, 1024, 1025, greatest} {
				refuses(t, typ, api.Runs, rows, n, []byte{0})
				refuses(t, typ, api.Runs, rows, n, []byte{1, 10}, n, []byte{0})
				refuses(t, typ, api.Runs, rows, []byte{1, 1, 10}, n, []byte{0})
				refuses(t, typ, api.Runs, rows, []byte{1, 1, 10}, n, []byte{0, 1, 1, 10}, n, []byte{0})
			}
		}
		// The sums are 1 and 2 modulo 2^64, and 2 modulo 2^32.
		refuses(t, typ, api.Runs, 1, []byte{2, 0}, most, []byte{1, 10})
		refuses(t, typ, api.Runs, 1, half, []byte{0}, half, []byte{1, 10, 1, 0})
		refuses(t, typ, api.Runs, 2, []byte{3, 0}, most, []byte{1, 10})
		refuses(t, typ, api.Runs, 2, []byte{1, 0, 129, 128, 128, 128, 16, 1, 10})
	}
	refuses(t, api.Text, api.Runs, 2, []byte{1, 1, 1, 97, 1, 1, 1, 97})
	refuses(t, api.Text, api.Runs, 2, []byte{1, 1, 0, 1, 1, 0})
	refuses(t, api.Text, api.Runs, 1, []byte{1, 1, 2, 97})
	refuses(t, api.Text, api.Runs, 1, []byte{1, 1, 129, 0, 97})
	refuses(t, api.Bool, api.Runs, 2, []byte{1, 1, 2, 1, 1, 4})
}

// P10.3: values out of the range of the type, and the ones at its ends, in each kind of page.
func TestRangesOfTypes(t *testing.T) {
	for typ, l := range map[int][][2]api.Value{
		api.Bool:  {{num(0), num(-1)}, {num(1), num(2)}},
		api.Small: {{num(-1 << 31), num(-1<<31 - 1)}, {num(1<<31 - 1), num(1 << 31)}, {num(0), num(1 << 32)}, {num(0), num(least)}},
		api.Day:   {{num(-1000000), num(-1000001)}, {num(1000000), num(1000001)}, {num(0), num(greatest)}},
		api.Text:  {{text(xs(200)), text(xs(201))}, {text(""), text(xs(256))}},
	} {
		for _, pair := range l {
			for _, column := range [][2][]api.Value{
				{{pair[0]}, {pair[1]}}, {{null, pair[0]}, {null, pair[1]}}, {{pair[0], null, pair[0]}, {pair[0], null, pair[1]}},
				{{pair[0], pair[0]}, {pair[1], pair[0]}},
			} {
				for _, kind := range kindsOf(typ) {
					good, _ := wantEncode(column[0], typ, kind)
					decodes(t, good, typ, column[0])
					bad := api.Page{Kind: kind, Rows: len(column[1])}
					switch kind {
					case api.Plain:
						bad.B = wantPlain(column[1], typ)
					case api.Dict:
						bad.B = wantDict(column[1], typ)
					case api.Delta:
						bad.B = wantDelta(column[1])
					case api.Runs:
						bad.B = wantRuns(column[1], typ)
					}
					decodeFails(t, bad, typ, api.ErrPage)
				}
			}
		}
	}
}

// P10.3: a sum out of the range of the type, although all differences are in it; it may come back into the range.
func TestRangesOfSums(t *testing.T) {
	refuses(t, api.Bool, api.Delta, 2, []byte{0, 2, 2})
	refuses(t, api.Bool, api.Delta, 3, []byte{0, 2, 2, 1})
	refuses(t, api.Bool, api.Delta, 2, []byte{0, 0, 1})
	decodes(t, api.Page{Kind: api.Delta, Rows: 2, B: []byte{0, 2, 1}}, api.Bool, nums(1, 0))
	refuses(t, api.Day, api.Delta, 2, []byte{0, 128, 137, 122, 2})
	refuses(t, api.Day, api.Delta, 3, []byte{0, 128, 137, 122, 2, 1})
	refuses(t, api.Day, api.Delta, 2, []byte{0, 255, 136, 122, 1})
	refuses(t, api.Small, api.Delta, 2, []byte{0, 254, 255, 255, 255, 15, 2})
	refuses(t, api.Small, api.Delta, 2, []byte{0, 255, 255, 255, 255, 15, 1})
	decodes(t, api.Page{Kind: api.Delta, Rows: 2, B: slices.Concat([]byte{0}, most, []byte{1})}, api.Int, nums(least, greatest))
	refuses(t, api.Small, api.Delta, 2, []byte{0}, most, most)
	refuses(t, api.Int, api.Delta, 1, []byte{0}, tooMany)
	refuses(t, api.Int, api.Delta, 1, []byte{0, 130, 0})
	refuses(t, api.Int, api.Delta, 2, []byte{0, 2, 128, 0})
	refuses(t, api.Int, api.Plain, 1, []byte{0}, tooMany)
	refuses(t, api.Int, api.Plain, 1, []byte{0, 130, 0})
	refuses(t, api.Text, api.Plain, 1, []byte{0, 128, 0})
	refuses(t, api.Text, api.Plain, 1, []byte{0}, tooMany)
	refuses(t, api.Text, api.Plain, 1, []byte{0}, most)
	refuses(t, api.Text, api.Plain, 1, []byte{0}, half)
}

// agrees checks Decode against the oracle, and P10.3. It returns whether the page was accepted.
func agrees(t *testing.T, p api.Page, typ int) bool {
	t.Helper()
	want, wantErr := wantDecode(p, typ)
	l, err := page.Decode(p, typ)
	if err != wantErr || !slices.Equal(l, want) {
		t.Fatalf("Decode(%s, %d) = %s, %v instead of %s, %v", showPage(p), typ, show(l), err, show(want), wantErr)
	}
	if err != api.OK {
		return false
	}
	if q, err := page.Encode(l, typ, p.Kind); err != api.OK || !equal(p, q) {
		t.Fatalf("%s of the type %d is accepted, but %s has %s, %v", showPage(p), typ, show(l), showPage(q), err)
	}
	return true
}

// damages yields the page with one byte changed, missing or added, at each step-th place, and shorter and longer ones.
// The bytes that come in are those of by, and those that differ in one bit from the one that goes.
func damages(p api.Page, by []byte, step int, yield func(api.Page)) {
	try := func(parts ...[]byte) { yield(api.Page{Kind: p.Kind, Rows: p.Rows, B: slices.Concat(parts...)}) }
	for i := 0; i <= len(p.B); i += step {
		before, after := p.B[:i], p.B[i:]
		try(before)
		for _, c := range by {
			try(before, []byte{c}, after)
			if len(after) > 0 && c != after[0] {
				try(before, []byte{c}, after[1:])
			}
		}
		if len(after) == 0 {
			continue
		}
		for bit := range 8 {
			try(before, []byte{after[0] ^ 1<<bit}, after[1:])
		}
		try(before, after[1:])
		try(before, after[:1], after)
	}
	for i := range 9 {
		try(p.B, make([]byte, i))
		try(p.B, p.B[:min(i, len(p.B))])
	}
}

// allBytes are the 256 bytes.
func allBytes() []byte {
	var l []byte
	for i := range 256 {
		l = append(l, byte(i))
	}
	return l
}

// P10.1, A3, and P10.3: small pages with one byte changed to each other one, missing, or added, at each place.
func TestDamagedPages(t *testing.T) {
	t.Parallel()
	r := rand.New(rand.NewSource(3))
	for _, typ := range types {
		e := edges(typ)
		l := [][]api.Value{
			nil, {null}, {e[0]}, {e[1]}, {null, e[1], null}, {e[1], e[0], e[1]}, {e[0], e[0], e[1], null, null, e[1]},
			append(times(7, null), e[1]), append(times(8, e[1]), null), times(9, null), times(130, e[1]),
		}
		for range 12 {
			l = append(l, anyColumn(r, typ, 1+r.Intn(9)))
		}
		for _, column := range l {
			for _, kind := range kindsOf(typ) {
				p := encode(t, column, typ, kind)
				if len(p.B) < 60 {
					damages(p, allBytes(), 1, func(q api.Page) { agrees(t, q, typ) })
				}
			}
		}
	}
}

// P10.1, A3, and P10.3: pages of many values with one byte changed, missing or added, at each place.
func TestDamagedLongPages(t *testing.T) {
	t.Parallel()
	r := rand.New(rand.NewSource(4))
	for _, typ := range types {
		for _, n := range []int{127, 128, 129} {
			column := anyColumn(r, typ, n)
			if typ == api.Text {
				column = anyColumn(r, typ, 1+n/20)
			}
			for _, kind := range kindsOf(typ) {
				p := encode(t, column, typ, kind)
				damages(p, []byte{0, 1, 128}, 1+len(p.B)/200, func(q api.Page) { agrees(t, q, typ) })
			}
		}
		for _, kind := range kindsOf(typ) {
			p := encode(t, times(1024, edges(typ)[1]), typ, kind)
			damages(p, []byte{0, 128}, 1+len(p.B)/30, func(q api.Page) { agrees(t, q, typ) })
		}
	}
}

// P10.1, A3: the bytes of a page with other numbers of rows.
func TestOtherNumbersOfRows(t *testing.T) {
	t.Parallel()
	for _, typ := range types {
		for _, l := range columns(typ) {
			for _, kind := range kindsOf(typ) {
				p := encode(t, l, typ, kind)
				for _, rows := range []int{
					-1, 0, 1, len(l) - 1, len(l) + 1, len(l) - 8, len(l) + 8, 2 * len(l), 1023, 1024, 1025, -len(l), least, greatest, 1 << 32,
					len(l) + 1<<32, len(l) + 1<<16, len(l) + 1<<8, len(l) | least,
				} {
					if rows != len(l) {
						agrees(t, api.Page{Kind: kind, Rows: rows, B: p.B}, typ)
					}
				}
			}
		}
	}
}

// P10.1, A3: the bytes of a page as those of other kinds and types.
func TestOtherKindsAndTypes(t *testing.T) {
	t.Parallel()
	for _, typ := range types {
		for _, l := range columns(typ) {
			for _, kind := range kindsOf(typ) {
				p := encode(t, l, typ, kind)
				for _, other := range types {
					for _, p.Kind = range kinds {
						agrees(t, p, other)
					}
				}
			}
		}
	}
}

// P10.1, A3, and P10.3: all strings of up to five of some bytes, and all strings of two bytes.
func TestDecodeAllShortPages(t *testing.T) {
	t.Parallel()
	accepted := map[string]int{}
	try := func(b []byte, rows int) {
		for _, typ := range types {
			for _, kind := range kindsOf(typ) {
				if agrees(t, api.Page{Kind: kind, Rows: rows, B: b}, typ) {
					accepted[strconv.Itoa(kind)+" of "+strconv.Itoa(typ)]++
				}
			}
		}
	}
	var each func(b []byte, n int)
	each = func(b []byte, n int) {
		for rows := range 5 {
			try(b, rows)
		}
		if n == 0 {
			return
		}
		for _, c := range []byte{0, 1, 2, 3, 4, 128} {
			each(append(slices.Clip(b), c), n-1)
		}
	}
	each(nil, 5)
	for c := range 1 << 16 {
		try([]byte{byte(c >> 8), byte(c)}, 1+c%3)
	}
	for _, typ := range types {
		for _, kind := range kindsOf(typ) {
			if n := accepted[strconv.Itoa(kind)+" of "+strconv.Itoa(typ)]; n < 20 {
				t.Errorf("kind %d, type %d: only %d pages are accepted", kind, typ, n)
			}
		}
	}
}

// P10.1, A3, and P10.3: any bytes at which something changes.
func TestDecodeAnyBytes(t *testing.T) {
	t.Parallel()
	r := rand.New(rand.NewSource(5))
	some := []byte{0, 1, 2, 3, 4, 5, 7, 8, 9, 10, 97, 98, 127, 128, 129, 130, 137, 254, 255}
	for range 60000 {
		b := make([]byte, r.Intn(16))
		for i := range b {
			b[i] = pick(r, some)
			if r.Intn(3) > 0 {
				b[i] = pick(r, some[:5])
			}
		}
		rows := r.Intn(12)
		for _, typ := range types {
			for _, kind := range kindsOf(typ) {
				agrees(t, api.Page{Kind: kind, Rows: rows, B: b}, typ)
			}
		}
	}
}

// P10.1, A3: Decode does not look behind the end of the bytes.
func TestDecodeWithinTheLength(t *testing.T) {
	for _, typ := range types {
		for _, l := range columns(typ)[:200] {
			for _, kind := range kindsOf(typ) {
				p := encode(t, l, typ, kind)
				roomy := append(bytes.Clone(p.B), p.B...)[:len(p.B)]
				agrees(t, api.Page{Kind: kind, Rows: len(l), B: roomy}, typ)
				if len(roomy) > 0 {
					decodeFails(t, api.Page{Kind: kind, Rows: len(l), B: roomy[:len(roomy)-1]}, typ, api.ErrPage)
				}
			}
		}
	}
}
