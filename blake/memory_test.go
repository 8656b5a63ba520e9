package blake

import (
	"bytes"
	"sync"
	"testing"

	"fenland/api"
)

// calls are the four functions as functions of a key and a byte string.
func calls() map[string]func(key, b []byte) api.Digest {
	left, right := api.Digest(bytes.Repeat([]byte{3}, 32)), api.Digest(bytes.Repeat([]byte{4}, 32))
	return map[string]func(key, b []byte) api.Digest{
		"Keyed": Keyed,
		"Sum":   func(_, b []byte) api.Digest { return Sum(b) },
		"Leaf":  func(_, b []byte) api.Digest { return Leaf(b) },
		"Pair":  func(_, b []byte) api.Digest { return Pair(left, right, b) },
	}
}

// edges are the lengths at which keys and byte strings begin to need something else.
var edges = []int{0, 1, 31, 32, 33, 63, 64, 65, 100, 127, 128, 129, 200}

// P2.4 and P2: keys and byte strings stay as they were, up to their capacity, which has no effect either.
func TestArgumentsAreLeft(t *testing.T) {
	const room = 300
	for name, call := range calls() {
		for _, k := range edges {
			for _, n := range edges {
				key, b := secret(room), message(room)
				d := call(key[:k], b[:n])
				if !bytes.Equal(key, secret(room)) {
					t.Errorf("%s changes a key of %d bytes, with %d bytes", name, k, n)
				}
				if !bytes.Equal(b, message(room)) {
					t.Errorf("%s changes %d bytes, with a key of %d", name, n, k)
				}
				if d != call(key[:k:k], b[:n:n]) {
					t.Errorf("%s of %d bytes with a key of %d depends on the capacity", name, n, k)
				}
			}
		}
	}
}

// P2.4: a key and a byte string may share memory.
func TestArgumentsThatShareMemory(t *testing.T) {
	whole := message(300)
	for _, k := range edges {
		for _, n := range edges {
			for _, at := range []int{0, 1, 32, 64} {
				want := Keyed(bytes.Clone(whole[:k]), bytes.Clone(whole[at:at+n]))
				if Keyed(whole[:k], whole[at:at+n]) != want {
					t.Errorf("%d bytes at %d, with the first %d as the key", n, at, k)
				}
			}
		}
	}
	if !bytes.Equal(whole, message(300)) {
		t.Error("an argument is changed")
	}
}

// P2.4: digests are passed to Pair by value, and stay what they were.
func TestDigestsAreLeft(t *testing.T) {
	left, right := Leaf([]byte("left")), Leaf([]byte("right"))
	keptLeft, keptRight := left, right
	Pair(left, right, message(100))
	if left != keptLeft || right != keptRight {
		t.Error("Pair changes a digest")
	}
}

// P2.4 and P2: equal arguments have equal digests, whatever was called before, and wherever the arguments lie.
func TestRepeatedCalls(t *testing.T) {
	first := map[string]api.Digest{}
	for range 3 {
		for name, call := range calls() {
			for _, k := range edges {
				for _, n := range edges {
					d := call(secret(k), message(n))
					id := name + string(rune(k)) + string(rune(n))
					if before, is := first[id]; is && before != d {
						t.Errorf("%s: two digests of %d bytes with a key of %d", name, n, k)
					}
					first[id] = d
				}
			}
		}
	}
}

// P2.4 and P2: calls at the same time have the digests that they have one after the other.
func TestCallsAtTheSameTime(t *testing.T) {
	key, b := secret(32), message(1000)
	var wait sync.WaitGroup
	for name, call := range calls() {
		for n := range 50 {
			want := call(key[:n%33], b[:n*20])
			for range 4 {
				wait.Go(func() {
					if call(key[:n%33], b[:n*20]) != want {
						t.Errorf("%s of %d bytes: another digest at the same time as other calls", name, n*20)
					}
				})
			}
		}
	}
	wait.Wait()
	if !bytes.Equal(key, secret(32)) || !bytes.Equal(b, message(1000)) {
		t.Error("an argument is changed")
	}
}

// P1: nil and empty arguments are interchangeable.
func TestNilArguments(t *testing.T) {
	for name, call := range calls() {
		if call(nil, nil) != call([]byte{}, []byte{}) {
			t.Errorf("%s tells nil from empty arguments", name)
		}
	}
}
