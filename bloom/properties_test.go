package bloom_test

import (
	"math/rand"
	"slices"
	"testing"

	"fenland/api"
	"fenland/bloom"
)

// hasAll checks that a sketch has all keys.
func hasAll(t *testing.T, f api.Bloom, keys [][]byte, when string) {
	t.Helper()
	for _, key := range keys {
		if !bloom.Has(f, key) {
			t.Errorf("%s: %s does not have %s", when, show(f), showKey(key))
		}
	}
}

// P11.2: each key is found when it was added, and after each further one.
func TestFurtherKeys(t *testing.T) {
	for _, k := range []int{1, 2, 7, 16} {
		for _, n := range []int{1, 2, 4, 128, 4096} {
			keys := slices.Concat(manyKeys(k, 60), someKeys())
			f := empty(k, n)
			for i, key := range keys {
				f = bloom.Add(f, key)
				hasAll(t, f, keys[:i+1], "Add")
			}
		}
	}
}

// P11.2: many keys in a sketch that New has made for them, after Union and after all Folds down to one byte.
func TestManyKeys(t *testing.T) {
	for _, x := range [][2]int{{1, 16}, {300, 1}, {300, 4}, {3000, 7}, {10000, 16}, {20000, 2}} {
		count, k := x[0], x[1]
		some, others := manyKeys(2, count/3+1), manyKeys(3, count/3+1)
		f, err := bloom.New(count, k)
		if err != api.OK {
			t.Fatalf("New(%d, %d): %v", count, k, err)
		}
		g := with(f, others)
		f = with(f, some)
		hasAll(t, f, some, "Add")
		all, further := union(t, f, g), manyKeys(4, 20)
		hasAll(t, all, slices.Concat(some, others), "Union")
		all = with(all, further)
		keys := slices.Concat(some, others, further)
		hasAll(t, all, keys, "Add after Union")
		for len(all.B) > 1 {
			all = fold(t, all)
			hasAll(t, all, keys, "Fold")
			keys = slices.Concat(keys, manyKeys(len(all.B), 3))
			all = with(all, manyKeys(len(all.B), 3))
			hasAll(t, all, keys, "Add after Fold")
		}
	}
}

// P11.2: the keys that a sketch with any other bits has, it keeps through Add, Union and Fold.
func TestNothingIsLost(t *testing.T) {
	r := rand.New(rand.NewSource(7))
	keys := slices.Concat(oneByteKeys(), someKeys()[:14])
	for _, n := range sizes[:12] {
		for _, k := range []int{1, 2, 3, 16} {
			f, g := anySketch(r, k, n), anySketch(r, k, n)
			found := slices.DeleteFunc(slices.Clone(keys), func(key []byte) bool { return !bloom.Has(f, key) })
			hasAll(t, with(f, manyKeys(n, 5)), found, "Add")
			hasAll(t, union(t, f, g), found, "Union")
			hasAll(t, union(t, g, f), found, "Union")
			for h := f; len(h.B) > 1; {
				h = fold(t, h)
				hasAll(t, h, found, "Fold")
			}
		}
	}
}

// P11.3: any order of keys, with any repetition.
func TestOrderAndRepetition(t *testing.T) {
	r := rand.New(rand.NewSource(8))
	for _, n := range []int{1, 2, 4, 16, 256, 65536} {
		for _, k := range []int{1, 2, 5, 16} {
			for _, count := range []int{0, 1, 2, 3, 20} {
				keys := manyKeys(n+k, count)
				want := wantSketch(k, n, keys)
				twice := slices.Concat(keys, keys)
				for _, l := range [][][]byte{keys, shuffled(r, keys), shuffled(r, keys), twice, shuffled(r, twice), shuffled(r, slices.Concat(twice, keys[:count/2]))} {
					if f := with(empty(k, n), l); !equal(f, want) {
						t.Errorf("K %d, %d bytes: %d keys in another order: %s instead of %s", k, n, len(l), show(f), show(want))
					}
				}
			}
		}
	}
}

// P11.3: all orders of four keys, some of which are equal.
func TestAllOrders(t *testing.T) {
	keys := [][]byte{nil, []byte("reed"), []byte("sedge"), []byte("reed")}
	want := wantSketch(3, 16, keys[:3])
	for i := range 256 {
		order := []int{i % 4, i / 4 % 4, i / 16 % 4, i / 64}
		if sorted := slices.Sorted(slices.Values(order)); !slices.Equal(sorted, []int{0, 1, 2, 3}) {
			continue
		}
		f := empty(3, 16)
		for _, at := range order {
			f = bloom.Add(f, keys[at])
		}
		if !equal(f, want) {
			t.Errorf("the order %v: %s instead of %s", order, show(f), show(want))
		}
	}
}

// P11.3: the union of the sketches of sets that have all keys, some or none in common.
func TestUnionOfSets(t *testing.T) {
	r := rand.New(rand.NewSource(9))
	for _, n := range []int{1, 2, 4, 16, 256, 65536} {
		for _, k := range []int{1, 2, 5, 16} {
			keys := manyKeys(10*n+k, 24)
			for _, x := range [][4]int{{0, 0, 0, 0}, {0, 0, 0, 24}, {0, 24, 0, 24}, {0, 12, 12, 24}, {0, 16, 8, 24}, {3, 9, 0, 24}, {5, 6, 6, 7}, {5, 6, 5, 6}} {
				some, others := keys[x[0]:x[1]], keys[x[2]:x[3]]
				f, g := with(empty(k, n), shuffled(r, some)), with(empty(k, n), shuffled(r, others))
				want := wantSketch(k, n, slices.Concat(some, others))
				unites(t, f, g, want)
				unites(t, g, f, want)
				if h := with(f, others); !equal(h, want) {
					t.Errorf("K %d, %d bytes: with the keys %v: %s instead of %s", k, n, x, show(h), show(want))
				}
			}
		}
	}
}

// P11.3: unions of three, in other orders.
func TestUnionOfThree(t *testing.T) {
	r := rand.New(rand.NewSource(10))
	for _, n := range sizes {
		f, g, h := anySketch(r, 4, n), anySketch(r, 4, n), anySketch(r, 4, n)
		want := wantUnion(wantUnion(f, g), h)
		unites(t, union(t, f, g), h, want)
		unites(t, f, union(t, g, h), want)
		unites(t, union(t, h, f), g, want)
		unites(t, union(t, f, f), union(t, h, g), want)
	}
}

// P11.4: the fold of a sketch is the sketch of the same keys with half the length, down to one byte.
func TestFoldOfKeys(t *testing.T) {
	for _, n := range sizes[1:] {
		for _, k := range []int{1, 2, 9, 16} {
			for _, count := range []int{0, 1, 2, 15} {
				keys := append(manyKeys(n, count), someKeys()[:count/3]...)
				f := with(empty(k, n), keys)
				for m := n / 2; m > 0; m /= 2 {
					want := with(empty(k, m), keys)
					if !equal(want, wantSketch(k, m, keys)) {
						t.Errorf("K %d, %d bytes: the sketch of %d keys is %s", k, m, len(keys), show(want))
					}
					folds(t, f, want)
					f = fold(t, f)
				}
				foldFails(t, f)
			}
		}
	}
}

// P11.4: Fold and then Add is Add and then Fold.
func TestFoldAndAdd(t *testing.T) {
	r := rand.New(rand.NewSource(11))
	for _, n := range sizes[1:] {
		for _, k := range []int{1, 3, 16} {
			f := anySketch(r, k, n)
			for _, key := range someKeys()[5:13] {
				folds(t, bloom.Add(f, key), bloom.Add(fold(t, f), key))
			}
		}
	}
}

// P11.4: the fold of a union is the union of the folds, down to one byte.
func TestFoldOfUnion(t *testing.T) {
	r := rand.New(rand.NewSource(12))
	for _, n := range sizes[1:] {
		for _, k := range []int{1, 2, 16} {
			keys, others := manyKeys(n, 10), manyKeys(n+1, 5)
			for _, x := range [][2]api.Bloom{
				{anySketch(r, k, n), anySketch(r, k, n)}, {empty(k, n), anySketch(r, k, n)}, {full(k, n), anySketch(r, k, n)},
				{with(empty(k, n), keys), with(empty(k, n), others)},
			} {
				f, g := x[0], x[1]
				both := union(t, f, g)
				for len(both.B) > 1 {
					f, g = fold(t, f), fold(t, g)
					want := union(t, f, g)
					folds(t, both, want)
					both = fold(t, both)
				}
			}
		}
	}
}

// P11.5: Add sets as many bits as the sketch lacks of the K of the key, none if Has is true, and at least one if it is
// not; no bit becomes 0.
func TestGrowth(t *testing.T) {
	r := rand.New(rand.NewSource(13))
	keys := slices.Concat(someKeys(), oneByteKeys()[:30])
	for _, n := range sizes[:11] {
		for _, k := range ks() {
			for _, f := range []api.Bloom{empty(k, n), full(k, n), anySketch(r, k, n), anySketch(r, k, n)} {
				key := pick(r, keys)
				has, g := bloom.Has(f, key), bloom.Add(f, key)
				further := ones(g) - ones(f)
				if !equal(wantUnion(f, g), g) {
					t.Errorf("Add(%s; %s) clears a bit", show(f), showKey(key))
				}
				if further > k || has != (further == 0) {
					t.Errorf("Add(%s; %s) sets %d further bits, and Has was %v", show(f), showKey(key), further, has)
				}
				if !bloom.Has(g, key) {
					t.Errorf("Add(%s; %s) = %s, which does not have it", show(f), showKey(key), show(g))
				}
			}
		}
	}
}

// P11.5: each of many keys, until a sketch has most of its bits; a sketch that has a key stays as it is.
func TestGrowthOfManyKeys(t *testing.T) {
	for _, n := range []int{1, 2, 4, 64} {
		for _, k := range []int{1, 2, 16} {
			f := empty(k, n)
			for i, key := range manyKeys(k*n, 40*n) {
				has, g := bloom.Has(f, key), bloom.Add(f, key)
				if further := ones(g) - ones(f); further > k || has != (further == 0) || has && !equal(f, g) {
					t.Errorf("K %d, %d bytes: key %d sets %d further bits, and Has was %v", k, n, i, further, has)
				}
				f = g
			}
			if ones(f) < 6*n {
				t.Errorf("K %d, %d bytes: only %d bits of many keys", k, n, ones(f))
			}
		}
	}
}
