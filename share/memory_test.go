package share

import (
	"bytes"
	"math/rand"
	"slices"
	"sync"
	"testing"

	"fenland/api"
)

// spoil writes to every byte of a slice and to the room behind it.
func spoil(b []byte) {
	b = b[:cap(b)]
	for i := range b {
		b[i] ^= 0xEE
	}
}

// roomy returns n bytes with room behind them, and the whole of their memory.
func roomy(n int) (b, whole []byte) {
	whole = make([]byte, n+40)
	for i := range whole {
		whole[i] = byte(i*7 + 3)
	}
	return whole[:n], whole
}

// roomyShares returns k shares of n bytes, and the whole memory of the list, and of the values of each share.
func roomyShares(k, n int) (l, list []api.Share, values [][]byte) {
	list = make([]api.Share, k+3)
	for i := range list {
		b, whole := roomy(n)
		list[i] = api.Share{X: byte(3*(k+3-i) + 5), B: b}
		values = append(values, whole)
	}
	return list[:k], list, values
}

// copied returns shares that have memory of their own.
func copied(l []api.Share) []api.Share {
	var m []api.Share
	for _, s := range l {
		m = append(m, api.Share{X: s.X, B: bytes.Clone(s.B)})
	}
	return m
}

func copiedBytes(l [][]byte) [][]byte {
	var m [][]byte
	for _, b := range l {
		m = append(m, bytes.Clone(b))
	}
	return m
}

func sameBytes(l, m [][]byte) bool { return slices.EqualFunc(l, m, bytes.Equal) }

// A5 and P2: Split leaves its arguments, up to their capacity, and has nothing of their memory.
func TestSplitIsSeparate(t *testing.T) {
	for _, w := range sizes {
		for _, n := range []int{0, 1, 3} {
			secret, whole := roomy(n)
			random, wholeRandom := roomy(n * (w[0] - 1))
			kept, keptRandom := bytes.Clone(whole), bytes.Clone(wholeRandom)
			l, _ := Split(secret, random, w)
			again, _ := Split(secret[:n:n], random[:len(random):len(random)], w)
			if !sameShares(l, again) {
				t.Errorf("%v: Split depends on the capacity", w)
			}
			spoilEach(t, l, again)
			if !bytes.Equal(whole, kept) || !bytes.Equal(wholeRandom, keptRandom) {
				t.Errorf("%v: Split changes its arguments, or its result has their memory", w)
			}
			spoil(secret)
			spoil(random)
			if m, _ := Split(kept[:n], keptRandom[:len(random)], w); !sameShares(m, again) {
				t.Errorf("%v: the result changes with the arguments", w)
			}
		}
	}
}

// A5 and P2: Refresh leaves its arguments, up to their capacity, and has nothing of their memory.
func TestRefreshIsSeparate(t *testing.T) {
	for _, need := range []int{1, 2, 4, 255} {
		for _, n := range []int{0, 1, 3} {
			l, list, values := roomyShares(5, n)
			random, wholeRandom := roomy(n * (need - 1))
			keptList, keptValues, keptRandom := copied(list), copiedBytes(values), bytes.Clone(wholeRandom)
			m, _ := Refresh(l, random, need)
			again, _ := Refresh(slices.Clip(copied(l)), slices.Clip(random), need)
			if !sameShares(m, again) {
				t.Errorf("need %d: Refresh depends on the capacity", need)
			}
			spoilEach(t, m, again)
			if !sameShares(list, keptList) || !sameBytes(values, keptValues) || !bytes.Equal(wholeRandom, keptRandom) {
				t.Errorf("need %d: Refresh changes its arguments, or its result has their memory", need)
			}
			m, _ = Refresh(l, random, need)
			for _, b := range values {
				spoil(b)
			}
			spoil(random)
			clear(list)
			if !sameShares(m, again) {
				t.Errorf("need %d: the result changes with the arguments", need)
			}
		}
	}
}

// spoilEach writes to each element of l and behind it, and after each time compares the others with those of want.
func spoilEach(t *testing.T, l, want []api.Share) {
	t.Helper()
	for i := range l {
		spoil(append(l[i].B, 1))
		spoil(l[i].B)
		for k := i + 1; k < len(l); k++ {
			if l[k].X != want[k].X || !bytes.Equal(l[k].B, want[k].B) {
				t.Fatalf("the shares %d and %d have common memory", i, k)
			}
		}
	}
	whole := l[:cap(l)]
	clear(whole)
}

// A5: the refreshed shares are separate also if those before them have one memory.
func TestRefreshOfCommonMemory(t *testing.T) {
	b := []byte{1, 2, 3}
	l := []api.Share{{X: 1, B: b}, {X: 2, B: b}, {X: 3, B: b}}
	for _, need := range []int{1, 2} {
		m, _ := Refresh(l, []byte{5, 6, 7}, need)
		spoilEach(t, m, copied(m))
		if !bytes.Equal(b, []byte{1, 2, 3}) {
			t.Errorf("need %d: the argument is changed", need)
		}
	}
}

// A5 and P2: Combine leaves its argument, its order included, and its result has nothing of the memory.
func TestCombineIsSeparate(t *testing.T) {
	for _, need := range []int{1, 2, 4, 5} {
		for _, n := range []int{0, 1, 3} {
			l, list, values := roomyShares(5, n)
			keptList, keptValues := copied(list), copiedBytes(values)
			for k := need; k <= 5; k++ {
				b, err := Combine(l[:k], need)
				again, _ := Combine(slices.Clip(copied(l[:k])), need)
				if err == api.OK && !bytes.Equal(b, again) {
					t.Errorf("need %d: Combine depends on the capacity", need)
				}
				spoil(append(b, 1))
				spoil(b)
				if !sameShares(list, keptList) || !sameBytes(values, keptValues) {
					t.Fatalf("need %d: Combine changes its argument, or its result has the memory", need)
				}
			}
			b, _ := Combine(l[:need], need)
			kept := bytes.Clone(b)
			for _, v := range values {
				spoil(v)
			}
			if !bytes.Equal(b, kept) {
				t.Errorf("need %d: the result changes with the argument", need)
			}
		}
	}
}

// P2: with an error, too, the arguments stay as they were.
func TestErrorsLeaveArguments(t *testing.T) {
	for name, l := range badLists() {
		kept, random := copied(l), []byte{1, 2, 3}
		Combine(l, 2)
		Refresh(l, random, 2)
		Split(random, random, [2]int{3, 2})
		if !sameShares(l, kept) || !bytes.Equal(random, []byte{1, 2, 3}) {
			t.Errorf("%s: an argument is changed", name)
		}
	}
}

// P2: equal arguments have equal results, whatever was called before, and at the same time.
func TestCallsAtTheSameTime(t *testing.T) {
	r := rand.New(rand.NewSource(1))
	secret, random, more := anyBytes(r, 9), anyBytes(r, 90), anyBytes(r, 90)
	var wait sync.WaitGroup
	for _, w := range sizes {
		l, _ := Split(secret, random, w)
		m, _ := Refresh(l, more, w[0])
		for range 4 {
			wait.Go(func() {
				again, err := Split(secret, random, w)
				fresh, _ := Refresh(l, more, w[0])
				b, _ := Combine(m, w[0])
				if err != api.OK || !sameShares(again, l) || !sameShares(fresh, m) || !bytes.Equal(b, secret) {
					t.Errorf("%v: other results at the same time as other calls", w)
				}
				if Mul(87, 131) != 193 || Inv(2) != 141 {
					t.Error("other products at the same time as other calls")
				}
			})
		}
	}
	wait.Wait()
}
