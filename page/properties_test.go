package page_test

import (
	"bytes"
	"math/rand"
	"slices"
	"testing"

	"fenland/api"
	"fenland/page"
	"fenland/value"
	"fenland/wire"
)

// dictionary returns the part of a Dict page before the places of the values.
func dictionary(t *testing.T, p api.Page, typ int) []byte {
	t.Helper()
	d, at, err := wire.ReadU(p.B, 0)
	for i := uint64(0); i < d && err == api.OK; i++ {
		if typ == api.Text {
			_, at, err = wire.ReadText(p.B, at)
		} else {
			_, at, err = wire.ReadS(p.B, at)
		}
	}
	if err != api.OK {
		t.Fatalf("%s has no dictionary: %v", showPage(p), err)
	}
	return p.B[:at]
}

// P10.5: the order of the values, and how often each one comes, do not influence the dictionary.
func TestOrderAndDictionary(t *testing.T) {
	r := rand.New(rand.NewSource(11))
	for _, typ := range types {
		for _, l := range columns(typ) {
			want := dictionary(t, encode(t, l, typ, api.Dict), typ)
			other := slices.Clone(l)
			for _, reorder := range []func(){
				func() { slices.Reverse(other) },
				func() { r.Shuffle(len(other), func(i, k int) { other[i], other[k] = other[k], other[i] }) },
				func() { slices.SortFunc(other, value.Compare) },
				func() { other = append(append(other, other...), null)[:min(2*len(other)+1, 1024)] },
			} {
				reorder()
				p := encode(t, other, typ, api.Dict)
				if got := dictionary(t, p, typ); !bytes.Equal(got, want) {
					t.Errorf("the dictionary of %s is %s, and that of %s is %s", show(l), showBytes(want), show(other), showBytes(got))
				}
				decodes(t, p, typ, other)
			}
		}
	}
}

// P10.5: the places follow the order of the values.
func TestOrderAndPlaces(t *testing.T) {
	r := rand.New(rand.NewSource(12))
	for _, typ := range types {
		for range 60 {
			l := anyColumn(r, typ, 1+r.Intn(60))
			p := encode(t, l, typ, api.Dict)
			places := p.B[len(dictionary(t, p, typ)):]
			from, to := r.Intn(len(l)), r.Intn(len(l))
			l[from], l[to] = l[to], l[from]
			q := encode(t, l, typ, api.Dict)
			got := q.B[len(dictionary(t, q, typ)):]
			places = slices.Clone(places)
			places[from], places[to] = places[to], places[from]
			if !bytes.Equal(got, places) {
				t.Errorf("%s has the places %v instead of %v", show(l), got, places)
			}
		}
	}
}

// sums returns l with n added to each number that is not null, and whether all of them are valid.
func sums(l []api.Value, typ int, n int64) ([]api.Value, bool) {
	l = slices.Clone(l)
	for i := range l {
		if !l[i].Null {
			l[i].N += n
		}
		if !value.Valid(l[i], typ) {
			return nil, false
		}
	}
	return l, true
}

// P10.5: adding a number to all values changes only the first number of a Delta page.
func TestAdditionAndDelta(t *testing.T) {
	r := rand.New(rand.NewSource(13))
	for _, typ := range []int{api.Bool, api.Small, api.Int, api.Day} {
		tried := 0
		for _, l := range columns(typ) {
			p := encode(t, l, typ, api.Delta)
			for _, n := range []int64{1, -1, 5, 64, -1000, 123456, -1 << 31, 1 << 40, least, greatest, some(r, typ).N} {
				other, ok := sums(l, typ, n)
				first := slices.IndexFunc(l, func(v api.Value) bool { return !v.Null })
				if !ok || first < 0 {
					continue
				}
				tried++
				size := (len(l) + 7) / 8
				_, rest, err := wire.ReadS(p.B, size)
				if err != api.OK {
					t.Fatalf("%s: no first number", showPage(p))
				}
				want := slices.Concat(p.B[:size], wire.S(nil, l[first].N+n), p.B[rest:])
				if q := encode(t, other, typ, api.Delta); !bytes.Equal(q.B, want) {
					t.Errorf("%s and %d: %s instead of %s", show(l), n, showBytes(q.B), showBytes(want))
				}
			}
		}
		if tried < 100 {
			t.Errorf("the type %d: only %d sums are valid", typ, tried)
		}
	}
}

// P10.5: columns without numbers have no first number.
func TestAdditionAndNulls(t *testing.T) {
	for n := range 100 {
		if p := encode(t, times(n, null), api.Int, api.Delta); len(p.B) != (n+7)/8 {
			t.Errorf("%d nulls: %s", n, showPage(p))
		}
	}
}

// P10.6: one more value extends a Plain page by its bare encoding, except for the null mask.
func TestGrowthOfPlain(t *testing.T) {
	r := rand.New(rand.NewSource(14))
	for _, typ := range types {
		for n := range 1024 {
			if n > 40 && n < 1000 && n%61 > 0 {
				continue
			}
			l := anyColumn(r, typ, n)
			for _, v := range append(edges(typ), null) {
				longer := append(slices.Clip(l), v)
				p, q := encode(t, l, typ, api.Plain), encode(t, longer, typ, api.Plain)
				content := p.B[(n+7)/8:]
				if !v.Null && typ == api.Text {
					content = slices.Concat(content, wire.Text(nil, v.S))
				} else if !v.Null {
					content = slices.Concat(content, wire.S(nil, v.N))
				}
				if mask := wantMask(longer); !bytes.Equal(q.B, append(mask, content...)) {
					t.Errorf("%s and %+v: %s after %s", show(l), v, showPage(q), showPage(p))
				}
			}
		}
	}
}

// P10.6: a value equal to the last one extends a Runs page at most by one byte: by one if the run has 128 values.
func TestGrowthOfRuns(t *testing.T) {
	r := rand.New(rand.NewSource(15))
	for _, typ := range types {
		for _, v := range append(edges(typ)[:2], null, some(r, typ)) {
			other := null
			if v.Null {
				other = edges(typ)[0]
			}
			for _, before := range [][]api.Value{nil, {other}, times(130, other)} {
				l := append(slices.Clone(before), v)
				start := len(encode(t, before, typ, api.Runs).B)
				last := encode(t, l, typ, api.Runs)
				for run := 2; len(l) < 1024; run++ {
					l = append(l, v)
					p := encode(t, l, typ, api.Runs)
					grown := 0
					if run == 128 {
						grown = 1
					}
					if len(p.B) != len(last.B)+grown {
						t.Fatalf("%d values: %s after %s", run, showPage(p), showPage(last))
					}
					if !bytes.Equal(p.B[:start], last.B[:start]) || !bytes.HasPrefix(p.B[start:], wire.U(nil, uint64(run))) {
						t.Fatalf("%d values: %s", run, showPage(p))
					}
					last = p
				}
			}
		}
	}
}

// P10.6: any columns.
func TestGrowthOfAnyRuns(t *testing.T) {
	r := rand.New(rand.NewSource(16))
	for _, typ := range types {
		for range 200 {
			l := anyColumn(r, typ, 1+r.Intn(1023))
			p, q := encode(t, l, typ, api.Runs), encode(t, append(slices.Clip(l), l[len(l)-1]), typ, api.Runs)
			if n := len(q.B) - len(p.B); n < 0 || n > 1 {
				t.Errorf("%s is extended by %d bytes", show(l), n)
			}
		}
	}
}

// P10.2 and P10.3: different columns have different pages of each kind.
func TestPagesAreDifferent(t *testing.T) {
	for _, typ := range types {
		e := edges(typ)
		for _, kind := range kindsOf(typ) {
			seen := map[string][]api.Value{}
			for _, l := range smallColumns(5, null, e[0], e[1], e[len(e)-1]) {
				p := encode(t, l, typ, kind)
				name := string(page.Put(nil, p))
				if other, used := seen[name]; used && !slices.Equal(other, l) {
					t.Errorf("the type %d: %s and %s have the same page %s", typ, show(l), show(other), showPage(p))
				}
				seen[name] = l
			}
		}
	}
}
