package bloom_test

import (
	"bytes"
	"math"
	"math/rand"
	"sync"
	"testing"

	"fenland/api"
	"fenland/bloom"
)

// roomy is a copy of bytes with others behind their end, and with them.
func roomy(b []byte) (content, whole []byte) {
	whole = append(bytes.Clone(b), bytes.Repeat([]byte{0x55}, 40)...)
	return whole[:len(b)], whole
}

// spoil writes to every byte of a slice and to the room behind it.
func spoil(b []byte) {
	b = b[:cap(b)]
	for i := range b {
		b[i] ^= 0xEE
	}
}

// samples are sketches, valid and not.
func samples() []api.Bloom {
	r := rand.New(rand.NewSource(14))
	var l []api.Bloom
	for _, n := range sizes {
		l = append(l, empty(1, n), full(2, n), anySketch(r, 16, n), anySketch(r, 1+r.Intn(16), n))
	}
	return append(l, invalid()...)
}

// checkAdd checks that a call of Add leaves its arguments, that its result is separate from them and from another result,
// and that neither is changed through the other.
func checkAdd(t *testing.T, f api.Bloom, key []byte) {
	t.Helper()
	want, has := wantAdd(f, key), wantHas(f, key)
	content, whole := roomy(f.B)
	word, wholeWord := roomy(key)
	kept, keptWord := bytes.Clone(whole), bytes.Clone(wholeWord)
	g := api.Bloom{K: f.K, B: content}
	first, second := bloom.Add(g, word), bloom.Add(g, word)
	third := bloom.Add(first, word)
	if is := bloom.Has(g, word); is != has || !equal(first, want) || !equal(second, want) || !equal(third, want) {
		t.Errorf("Add(%s; %s) = %s, then %s, then %s, and Has is %v", show(f), showKey(key), show(first), show(second), show(third), is)
	}
	if !bytes.Equal(whole, kept) || !bytes.Equal(wholeWord, keptWord) {
		t.Errorf("Add or Has of %s and %s changes an argument", show(f), showKey(key))
	}
	spoil(append(first.B, 1, 2, 3))
	spoil(first.B)
	if !bytes.Equal(whole, kept) || !bytes.Equal(wholeWord, keptWord) || !equal(second, want) || !equal(third, want) {
		t.Errorf("the result of Add(%s; %s) has memory of an argument or of another result", show(f), showKey(key))
	}
	spoil(whole)
	spoil(wholeWord)
	if !equal(second, want) || !equal(third, want) {
		t.Errorf("the result of Add(%s; %s) changes with an argument", show(f), showKey(key))
	}
}

// P2: Add and Has, also where Add returns the sketch as it is, because it is not valid, has the key, or has all bits.
func TestAddIsSeparate(t *testing.T) {
	for _, f := range samples() {
		for _, key := range [][]byte{nil, {7}, []byte("reed")} {
			checkAdd(t, f, key)
			checkAdd(t, wantAdd(f, key), key)
		}
	}
}

// P2: Union, of two sketches, of one with itself, and of those that have no union.
func TestUnionIsSeparate(t *testing.T) {
	r := rand.New(rand.NewSource(15))
	for _, f := range samples() {
		g := anySketch(r, f.K, len(f.B))
		contentF, wholeF := roomy(f.B)
		contentG, wholeG := roomy(g.B)
		keptF, keptG := bytes.Clone(wholeF), bytes.Clone(wholeG)
		a, b := api.Bloom{K: f.K, B: contentF}, api.Bloom{K: g.K, B: contentG}
		first, err := bloom.Union(a, b)
		second, _ := bloom.Union(a, b)
		self, _ := bloom.Union(a, a)
		var want, wantSelf api.Bloom
		if wantValid(f) {
			want, wantSelf = wantUnion(f, g), copyOf(f)
		}
		if (err == api.OK) != wantValid(f) || !equal(first, want) || !equal(second, want) || !equal(self, wantSelf) {
			t.Errorf("Union(%s; %s) = %s, then %s, and with itself %s", show(f), show(g), show(first), show(second), show(self))
		}
		spoil(append(first.B, 1, 2, 3))
		spoil(first.B)
		if !bytes.Equal(wholeF, keptF) || !bytes.Equal(wholeG, keptG) || !equal(second, want) || !equal(self, wantSelf) {
			t.Errorf("Union(%s; %s) changes an argument, or its result has memory of one or of another result", show(f), show(g))
		}
		spoil(wholeF)
		spoil(wholeG)
		if !equal(second, want) || !equal(self, wantSelf) {
			t.Errorf("the result of Union(%s; %s) changes with an argument", show(f), show(g))
		}
	}
}

// P2: Fold, of sketches that have a half and of others.
func TestFoldIsSeparate(t *testing.T) {
	for _, f := range samples() {
		content, whole := roomy(f.B)
		kept := bytes.Clone(whole)
		g := api.Bloom{K: f.K, B: content}
		first, err := bloom.Fold(g)
		second, _ := bloom.Fold(g)
		var want api.Bloom
		if wantValid(f) && len(f.B) > 1 {
			want = wantFold(f)
		}
		if (err == api.OK) != (len(want.B) > 0) || !equal(first, want) || !equal(second, want) {
			t.Errorf("Fold(%s) = %s, then %s", show(f), show(first), show(second))
		}
		spoil(append(first.B, 1, 2, 3))
		spoil(first.B)
		if !bytes.Equal(whole, kept) || !equal(second, want) {
			t.Errorf("Fold(%s) changes its argument, or its result has memory of it or of another result", show(f))
		}
		spoil(whole)
		if !equal(second, want) {
			t.Errorf("the result of Fold(%s) changes with the argument", show(f))
		}
	}
}

// P2: sketches that New returns have memory of their own.
func TestNewIsSeparate(t *testing.T) {
	for _, keys := range []int{0, 1, 2, 100, 32768} {
		first, _ := bloom.New(keys, 3)
		second, _ := bloom.New(keys, 3)
		spoil(append(first.B, 1, 2, 3))
		spoil(first.B)
		third, _ := bloom.New(keys, 3)
		want, _ := wantNew(keys, 3)
		if !equal(second, want) || !equal(third, want) {
			t.Errorf("New(%d, 3) = %s and %s after another one was changed", keys, show(second), show(third))
		}
	}
}

// P2: arguments may share memory with one another: a key with a sketch, and a sketch with another one.
func TestArgumentsThatShareMemory(t *testing.T) {
	r := rand.New(rand.NewSource(16))
	for _, n := range []int{1, 2, 4, 32, 1024} {
		whole := anySketch(r, 1, 3*n).B
		kept := bytes.Clone(whole)
		for _, k := range []int{1, 4, 16} {
			f := api.Bloom{K: k, B: whole[n : 2*n]}
			for _, key := range [][]byte{f.B, whole, whole[:n], whole[n-1 : n+1]} {
				if g, want := bloom.Add(f, key), wantAdd(copyOf(f), bytes.Clone(key)); !equal(g, want) {
					t.Errorf("Add(%s; a key of %d bytes inside) = %s instead of %s", show(f), len(key), show(g), show(want))
				}
				if is := bloom.Has(f, key); is != wantHas(copyOf(f), bytes.Clone(key)) {
					t.Errorf("Has(%s; a key of %d bytes inside) = %v", show(f), len(key), is)
				}
			}
			for at := 0; at <= 2*n; at += max(1, n/4) {
				g := api.Bloom{K: k, B: whole[at : at+n]}
				want := wantUnion(copyOf(f), copyOf(g))
				unites(t, f, g, want)
				unites(t, g, f, want)
			}
		}
		if !bytes.Equal(whole, kept) {
			t.Errorf("an argument of %d bytes is changed", n)
		}
	}
}

// P2: nil and empty slices are interchangeable.
func TestNilAndEmpty(t *testing.T) {
	for _, n := range []int{1, 2, 16, 65536} {
		for _, k := range []int{1, 16} {
			want := bloom.Add(empty(k, n), nil)
			for _, key := range [][]byte{{}, make([]byte, 0, 9), []byte("reed")[:0]} {
				if f := bloom.Add(empty(k, n), key); !equal(f, want) || !bloom.Has(want, key) || bloom.Has(empty(k, n), key) {
					t.Errorf("K %d, %d bytes: an empty key is not nil", k, n)
				}
			}
		}
	}
	for _, k := range []int{-1, 0, 1, 16, 17} {
		for _, b := range [][]byte{nil, {}, make([]byte, 0, 9)} {
			f := api.Bloom{K: k, B: b}
			if g := bloom.Add(f, []byte("reed")); !equal(g, f) || !bloom.Has(f, nil) {
				t.Errorf("Add(%s) = %s", show(f), show(g))
			}
			foldFails(t, f)
			unionFails(t, f, f)
			unionFails(t, f, api.Bloom{K: k})
		}
	}
}

// P2: the same arguments have the same results, in any order of calls, and at the same time.
func TestCallsAtTheSameTime(t *testing.T) {
	l := samples()
	keys := someKeys()
	type results struct {
		made, added, both, half api.Bloom
		has                     bool
		errs                    [3]api.Errno
	}
	callAll := func(i int) (x results) {
		key := keys[i%len(keys)]
		x.made, x.errs[0] = bloom.New(i*i, i%18)
		x.added, x.has = bloom.Add(l[i], key), bloom.Has(l[i], key)
		x.both, x.errs[1] = bloom.Union(l[i], x.added)
		x.half, x.errs[2] = bloom.Fold(l[i])
		return x
	}
	var want []results
	for i := range l {
		want = append(want, callAll(i))
	}
	same := func(x, y results) bool {
		return equal(x.made, y.made) && equal(x.added, y.added) && equal(x.both, y.both) && equal(x.half, y.half) && x.has == y.has && x.errs == y.errs
	}
	var wait sync.WaitGroup
	for n := range 8 {
		wait.Go(func() {
			for k := range l {
				i := (k*(2*n+1) + n) % len(l)
				if !same(callAll(i), want[i]) {
					t.Errorf("other results for %s", show(l[i]))
				}
			}
		})
	}
	wait.Wait()
}

// P1: all functions return for arguments that are very large.
func TestLargeArguments(t *testing.T) {
	const size = 1 << 24
	key := bytes.Repeat([]byte{7}, size)
	agrees(t, empty(16, 65536), key)
	for _, n := range []int{size, size - 1, size + 1} {
		for _, k := range []int{1, 16, 0, 17, math.MaxInt, math.MinInt} {
			f := api.Bloom{K: k, B: bytes.Repeat([]byte{1}, n)}
			if g := bloom.Add(f, key[:100]); !equal(g, f) || !bloom.Has(f, key[:100]) {
				t.Errorf("Add(%s) = %s", show(f), show(g))
			}
			unionFails(t, f, f)
			foldFails(t, f)
		}
	}
	for _, k := range []int{math.MaxInt, math.MinInt, math.MaxInt32, 1 << 30} {
		f := api.Bloom{K: k, B: []byte{0}}
		if g := bloom.Add(f, key[:100]); !equal(g, f) || !bloom.Has(f, key[:100]) {
			t.Errorf("Add(%s) = %s", show(f), show(g))
		}
		newFails(t, math.MaxInt, k, api.ErrArg)
	}
	newFails(t, math.MaxInt, 16, api.ErrBig)
}
