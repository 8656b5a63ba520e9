package share

import (
	"bytes"
	"math/rand"
	"slices"
	"testing"

	"fenland/api"
)

// one returns a share of one byte.
func one(x, b byte) api.Share { return api.Share{X: x, B: []byte{b}} }

// shuffled returns the elements of l in another order.
func shuffled(r *rand.Rand, l []api.Share) []api.Share {
	m := slices.Clone(l)
	r.Shuffle(len(m), func(i, k int) { m[i], m[k] = m[k], m[i] })
	return m
}

// anyShares returns k shares of n bytes at any points, in any order, whose polynomials have the degree need - 1 or less.
func (o *oracle) anyShares(r *rand.Rand, k, n, need int) []api.Share {
	all, _ := o.split(anyBytes(r, n), anyBytes(r, n*(need-1)), [2]int{need, 255})
	return shuffled(r, all)[:k]
}

// P4.1: A3, the section 'Examples'.
func TestExamplesOfCombine(t *testing.T) {
	if b, err := Combine([]api.Share{one(1, 6), one(3, 0)}, 2); err != api.OK || !bytes.Equal(b, []byte{5}) {
		t.Errorf("Combine of two shares: %v, %v", b, err)
	}
	if b, err := Combine([]api.Share{one(1, 6), one(2, 4), one(3, 0)}, 2); err != api.ErrShares || len(b) != 0 {
		t.Errorf("Combine of three shares: %v, %v", b, err)
	}
	if b, err := Combine([]api.Share{one(1, 6), one(2, 3), one(3, 0)}, 2); err != api.OK || !bytes.Equal(b, []byte{5}) {
		t.Errorf("Combine of three shares that fit: %v, %v", b, err)
	}
}

// P4.1: A3, any need shares have a secret, at any points, in any order, whatever their bytes are.
func TestCombineOfAnyValues(t *testing.T) {
	o, r := newOracle(), rand.New(rand.NewSource(1))
	for _, need := range []int{1, 2, 3, 4, 7, 16, 100, 254, 255} {
		for _, n := range []int{0, 1, 3} {
			l := o.anyShares(r, need, n, need)
			for i := range l {
				l[i].B = anyBytes(r, n)
			}
			want, _ := o.combine(l, need)
			if b, err := Combine(l, need); err != api.OK || !bytes.Equal(b, want) {
				t.Errorf("Combine(%v, %d): %v, %v; want %v", l, need, b, err, want)
			}
		}
	}
}

// P4.1: A3, lists that have a secret, lists that contradict themselves, and lists that are too short.
func TestCombineAtRandom(t *testing.T) {
	o, r := newOracle(), rand.New(rand.NewSource(2))
	seen := map[api.Errno]int{}
	for range 3000 {
		k, n, need := 1+r.Intn(9), r.Intn(4), 1+r.Intn(7)
		l := o.anyShares(r, k, n, min(255, 1+r.Intn(need+1)))
		want, wantErr := o.combine(l, need)
		if b, err := Combine(l, need); err != wantErr || !bytes.Equal(b, want) {
			t.Fatalf("Combine(%v, %d): %v, %v; want %v, %v", l, need, b, err, want, wantErr)
		}
		seen[wantErr]++
	}
	if seen[api.OK] < 500 || seen[api.ErrShares] < 500 {
		t.Errorf("results: %v", seen)
	}
}

// badLists are lists that are not well-formed.
func badLists() map[string][]api.Share {
	many := []api.Share{}
	for x := range 256 {
		many = append(many, one(byte(x+1), 5))
	}
	return map[string][]api.Share{
		"a point 0 alone":           {one(0, 5)},
		"a point 0 first":           {one(0, 5), one(1, 6), one(3, 0)},
		"a point 0 last":            {one(1, 6), one(3, 0), one(0, 5)},
		"two points 0":              {one(0, 5), one(0, 5)},
		"a repeated share":          {one(1, 6), one(1, 6)},
		"a repeated point":          {one(1, 6), one(1, 7)},
		"a repeated point far away": {one(1, 6), one(2, 3), one(3, 0), one(1, 6)},
		"repeated points":           {one(3, 0), one(3, 0), one(1, 6), one(1, 6)},
		"the point 255 twice":       {one(255, 6), one(1, 6), one(255, 6)},
		"256 points":                many,
		"256 points, 0 first":       append([]api.Share{many[255]}, many[:255]...),
		"300 points":                append(slices.Clone(many), many[:44]...),
		"a value more, last":        {one(1, 6), {X: 2, B: []byte{3, 3}}},
		"a value more, first":       {{X: 2, B: []byte{3, 3}}, one(1, 6)},
		"a value more, amid":        {one(1, 6), {X: 2, B: []byte{3, 3}}, one(3, 0)},
		"no values, last":           {one(1, 6), {X: 2}},
		"no values, first":          {{X: 2}, one(1, 6)},
		"no values, amid":           {one(1, 6), {X: 2, B: []byte{}}, one(3, 0)},
	}
}

// P4.1: A3 and A4, ErrShares for lists that are not well-formed, however many shares are required.
func TestBadLists(t *testing.T) {
	for name, l := range badLists() {
		for need := 1; need <= 255; need++ {
			if b, err := Combine(l, need); err != api.ErrShares || len(b) != 0 {
				t.Errorf("%s: Combine with need %d: %v, %v", name, need, b, err)
			}
			if m, err := Refresh(l, []byte{1, 2, 3}, need); err != api.ErrShares || len(m) != 0 {
				t.Errorf("%s: Refresh with need %d: %v, %v", name, need, m, err)
			}
		}
	}
}

// P4.1: A3 and A4, ErrArg unless 1 <= need <= 255, also for lists that are not well-formed, or empty.
func TestBadNeeds(t *testing.T) {
	lists := badLists()
	lists["no shares"] = nil
	lists["a share"] = []api.Share{one(1, 6)}
	lists["shares"] = []api.Share{one(1, 6), one(3, 0)}
	for name, l := range lists {
		for _, need := range limits {
			if 1 <= need && need <= 255 {
				continue
			}
			if b, err := Combine(l, need); err != api.ErrArg || len(b) != 0 {
				t.Errorf("%s: Combine with need %d: %v, %v", name, need, b, err)
			}
			if m, err := Refresh(l, []byte{1, 2, 3}, need); err != api.ErrArg || len(m) != 0 {
				t.Errorf("%s: Refresh with need %d: %v, %v", name, need, m, err)
			}
		}
	}
}

// P4.1: A3, the least and the greatest number of shares that are required, with one share more and one less.
func TestCombineAtTheLimits(t *testing.T) {
	all, _ := Split([]byte{7, 0, 255}, bytes.Repeat([]byte{1, 2, 3}, 254), [2]int{255, 255})
	if b, err := Combine(all, 255); err != api.OK || !bytes.Equal(b, []byte{7, 0, 255}) {
		t.Errorf("Combine of 255 shares: %v, %v", b, err)
	}
	if b, err := Combine(all[:254], 255); err != api.ErrShares || len(b) != 0 {
		t.Errorf("Combine of 254 shares: %v, %v", b, err)
	}
	if b, err := Combine(all, 254); err != api.ErrShares || len(b) != 0 {
		t.Errorf("Combine with need 254: %v, %v", b, err)
	}
	if b, err := Combine(all[255:], 1); err != api.ErrShares || len(b) != 0 {
		t.Errorf("Combine of no shares: %v, %v", b, err)
	}
	if b, err := Combine(all[254:], 1); err != api.OK || !bytes.Equal(b, all[254].B) {
		t.Errorf("Combine of one share: %v, %v", b, err)
	}
}

// P4.1: A3, the empty secret has shares without values.
func TestCombineOfNothing(t *testing.T) {
	for _, l := range [][]api.Share{{{X: 1}}, {{X: 9, B: []byte{}}, {X: 1}}, {{X: 255}, {X: 254}, {X: 1, B: []byte{}}}} {
		for need := 1; need <= 4; need++ {
			want := api.OK
			if need > len(l) {
				want = api.ErrShares
			}
			if b, err := Combine(l, need); err != want || len(b) != 0 {
				t.Errorf("Combine(%v, %d): %v, %v", l, need, b, err)
			}
		}
	}
}

// P4.1: A4, lists of any points, in any order, and also fewer than need.
func TestRefresh(t *testing.T) {
	o, r := newOracle(), rand.New(rand.NewSource(3))
	for _, need := range []int{1, 2, 3, 5, 16, 128, 254, 255} {
		for _, k := range []int{1, 2, need, 255} {
			for n := range 4 {
				l := o.anyShares(r, k, n, 1+r.Intn(255))
				for _, random := range randoms(r, n, need) {
					want, _ := o.refresh(l, random, need)
					if m, err := Refresh(l, random, need); err != api.OK || !sameShares(m, want) {
						t.Fatalf("Refresh(%v, %v, %d): %v, %v; want %v", l, random, need, m, err, want)
					}
				}
			}
		}
	}
}

// P4.1: A4, the empty list is well-formed.
func TestRefreshOfNoShares(t *testing.T) {
	for _, l := range [][]api.Share{nil, {}} {
		for _, need := range []int{1, 2, 255} {
			if m, err := Refresh(l, []byte{1, 2, 3}, need); err != api.OK || len(m) != 0 {
				t.Errorf("Refresh of no shares with need %d: %v, %v", need, m, err)
			}
		}
	}
}

// P4.1: A4, the values are increased by those of the polynomials, whose constants are 0.
func TestRefreshByHand(t *testing.T) {
	l := []api.Share{{X: 3, B: []byte{0, 7}}, {X: 1, B: []byte{6, 7}}, {X: 128, B: []byte{0, 0}}}
	// 2 times 128 is 27.
	want := []api.Share{{X: 3, B: []byte{6, 4}}, {X: 1, B: []byte{4, 6}}, {X: 128, B: []byte{27, 128}}}
	if m, err := Refresh(l, []byte{2, 1}, 2); err != api.OK || !sameShares(m, want) {
		t.Errorf("Refresh: %v, %v; want %v", m, err, want)
	}
	for _, random := range [][]byte{nil, {0}, {0, 0}, {0, 0, 9}} {
		if m, err := Refresh(l, random, 2); err != api.OK || !sameShares(m, l) {
			t.Errorf("Refresh with %v: %v, %v", random, m, err)
		}
	}
	if m, err := Refresh(l, []byte{2, 1}, 1); err != api.OK || !sameShares(m, l) {
		t.Errorf("Refresh with need 1: %v, %v", m, err)
	}
}
