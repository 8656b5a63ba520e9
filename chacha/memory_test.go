package chacha

import (
	"bytes"
	"strings"
	"sync"
	"testing"

	"fenland/api"
)

// spoil writes to every byte of a slice and to the room behind it.
func spoil(b []byte) {
	b = b[:cap(b)]
	for i := range b {
		b[i] ^= 0xEE
	}
}

// P2: bytes, keys and nonces stay as they were, the bytes up to their capacity, which has no effect either.
func TestArgumentsAreLeft(t *testing.T) {
	const room = 5000
	for _, p := range pairs() {
		kept := p
		for _, n := range lengths {
			b := message(room)
			c := Xor(p.key, p.nonce, b[:n])
			if !bytes.Equal(b, message(room)) {
				t.Errorf("Xor changes %d bytes", n)
			}
			if !bytes.Equal(c, Xor(p.key, p.nonce, b[:n:n])) {
				t.Errorf("Xor of %d bytes depends on the capacity", n)
			}
		}
		Block(p.key, p.nonce, 7)
		Derive(p.key, "label")
		if p != kept {
			t.Error("a key or a nonce is changed")
		}
	}
}

// P2: a result of Xor has no memory of its argument or of another result.
func TestResultsAreSeparate(t *testing.T) {
	key, nonce := sample()
	for _, n := range lengths {
		b := message(n + 9)
		first := Xor(key, nonce, b[:n])
		kept := bytes.Clone(first)
		second := Xor(key, nonce, b[:n])
		spoil(append(second, 1))
		spoil(second)
		if !bytes.Equal(first, kept) {
			t.Errorf("two results of %d bytes share memory", n)
		}
		if !bytes.Equal(b, message(n+9)) {
			t.Errorf("a result has the memory of %d bytes", n)
		}
		spoil(b)
		if !bytes.Equal(first, kept) {
			t.Errorf("a result changes with %d bytes", n)
		}
	}
}

// P2: a state is a value, which is not advanced for its owner.
func TestStatesAreLeft(t *testing.T) {
	key, nonce := sample()
	s := initial(key, nonce, 5)
	combine(s, message(200))
	block(s)
	if s != initial(key, nonce, 5) {
		t.Error("a state is changed")
	}
}

// P2: equal arguments have equal results, whatever was called before, and wherever the arguments lie.
func TestRepeatedCalls(t *testing.T) {
	sealed, blocks, keys := map[string]string{}, map[string][64]byte{}, map[string]api.Key{}
	for range 3 {
		for _, p := range pairs() {
			id := string(p.key[:]) + string(p.nonce[:])
			for _, n := range lengths {
				c := string(Xor(p.key, p.nonce, message(n)))
				name := id + strings.Repeat("x", n)
				if before, is := sealed[name]; is && before != c {
					t.Errorf("two results of Xor of %d bytes", n)
				}
				sealed[name] = c
			}
			for i, n := range counters {
				b := Block(p.key, p.nonce, n)
				name := id + strings.Repeat("x", i)
				if before, is := blocks[name]; is && before != b {
					t.Errorf("two blocks with the counter %d", n)
				}
				blocks[name] = b
			}
			for _, label := range labels() {
				d := Derive(p.key, strings.Clone(label))
				if before, is := keys[id+label]; is && before != d {
					t.Errorf("two keys with the label %q", label)
				}
				keys[id+label] = d
			}
		}
	}
}

// P2: calls at the same time have the results that they have one after the other.
func TestCallsAtTheSameTime(t *testing.T) {
	key, nonce := sample()
	b := message(4097)
	var wait sync.WaitGroup
	for _, n := range lengths {
		c, block, d := Xor(key, nonce, b[:n]), Block(key, nonce, uint32(n)), Derive(key, string(b[:n]))
		for range 4 {
			wait.Go(func() {
				if !bytes.Equal(Xor(key, nonce, b[:n]), c) || Block(key, nonce, uint32(n)) != block || Derive(key, string(b[:n])) != d {
					t.Errorf("other results at the same time as other calls, with %d bytes", n)
				}
			})
		}
	}
	wait.Wait()
	if !bytes.Equal(b, message(4097)) {
		t.Error("an argument is changed")
	}
}

// P1: nil and empty arguments are interchangeable, and none of the functions panics.
func TestNilArguments(t *testing.T) {
	for _, p := range pairs() {
		if len(Xor(p.key, p.nonce, nil)) != 0 || len(Xor(p.key, p.nonce, []byte{})) != 0 {
			t.Error("Xor of no bytes")
		}
		if Derive(p.key, "") != Derive(p.key, string([]byte{})) {
			t.Error("Derive with the empty label")
		}
	}
}
