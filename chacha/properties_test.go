package chacha

import (
	"bytes"
	"math/rand"
	"testing"

	"fenland/api"
)

// xored is the exclusive or of two byte strings of equal length.
func xored(a, b []byte) []byte {
	var c []byte
	for i := range a {
		c = append(c, a[i]^b[i])
	}
	return c
}

// P3.2: sealing and opening.
func TestTwiceIsNothing(t *testing.T) {
	for _, p := range pairs() {
		for _, n := range lengths {
			for _, b := range contents(n) {
				if c := Xor(p.key, p.nonce, Xor(p.key, p.nonce, b)); !bytes.Equal(c, b) {
					t.Errorf("Xor(%x, %x) twice, of %d bytes: %x", p.key, p.nonce, n, c)
				}
			}
		}
	}
}

// P3.2: an object of the greatest size.
func TestTwiceIsNothingForObjects(t *testing.T) {
	key, nonce := sample()
	b := message(api.MaxObject)
	c := Xor(key, nonce, b)
	if len(c) != len(b) || bytes.Equal(c, b) || !bytes.Equal(Xor(key, nonce, c), b) {
		t.Error("sealing and opening an object")
	}
}

// P3.2: what was sealed is opened with its own key and nonce alone, and is not the bytes themselves.
func TestOtherKeysDoNotOpen(t *testing.T) {
	key, nonce := sample()
	for _, n := range []int{32, 64, 65, 129} {
		b := message(n)
		c := Xor(key, nonce, b)
		if bytes.Equal(c, b) {
			t.Errorf("%d bytes are not sealed", n)
		}
		for i := range len(key) * 8 {
			other := key
			other[i/8] ^= 1 << (i % 8)
			if bytes.Equal(Xor(other, nonce, c), b) {
				t.Errorf("opened without bit %d of the key", i)
			}
		}
		for i := range len(nonce) * 8 {
			other := nonce
			other[i/8] ^= 1 << (i % 8)
			if bytes.Equal(Xor(key, other, c), b) {
				t.Errorf("opened without bit %d of the nonce", i)
			}
		}
	}
}

// P3.3: Xor of a prefix is a prefix of Xor.
func TestPrefixes(t *testing.T) {
	for _, p := range pairs() {
		for _, b := range contents(300) {
			whole := Xor(p.key, p.nonce, b)
			if len(whole) != len(b) {
				t.Fatalf("Xor of %d bytes has %d", len(b), len(whole))
			}
			for n := range len(b) + 1 {
				if c := Xor(p.key, p.nonce, b[:n]); !bytes.Equal(c, whole[:n]) {
					t.Errorf("Xor(%x, %x) of %d bytes is no prefix: %x", p.key, p.nonce, n, c)
				}
			}
		}
	}
}

// P3.3: Xor of zero bytes is the blocks of the counters 0, 1, 2, .., of which the last one is used in part.
func TestZeroBytesShowBlocks(t *testing.T) {
	for _, p := range pairs() {
		for _, n := range append([]int{300 * 64}, lengths...) {
			var blocks []byte
			for k := uint32(0); len(blocks) < n; k++ {
				b := Block(p.key, p.nonce, k)
				blocks = append(blocks, b[:]...)
			}
			if c := Xor(p.key, p.nonce, make([]byte, n)); !bytes.Equal(c, blocks[:n]) {
				t.Errorf("Xor(%x, %x) of %d zero bytes: %x", p.key, p.nonce, n, c)
			}
		}
	}
}

// P3.3: the blocks far from the beginning, where the counter has more than two bytes.
func TestZeroBytesShowLateBlocks(t *testing.T) {
	key, nonce := sample()
	const many = 1<<16 + 2
	stream := Xor(key, nonce, make([]byte, many*64))
	for _, k := range []uint32{0, 1, 254, 255, 256, 257, 511, 512, 1<<15 - 1, 1 << 15, 1<<16 - 1, 1 << 16, 1<<16 + 1} {
		if b := Block(key, nonce, k); !bytes.Equal(stream[k*64:k*64+64], b[:]) {
			t.Errorf("the block %d of the key stream: %x; want %x", k, stream[k*64:k*64+64], b)
		}
	}
}

// P3.3: the exclusive or of two results of equal length is that of their arguments.
func TestResultsCombineAsArguments(t *testing.T) {
	r := rand.New(rand.NewSource(5))
	for _, p := range pairs() {
		for _, n := range lengths {
			a, b := make([]byte, n), make([]byte, n)
			r.Read(a)
			r.Read(b)
			for _, x := range append(contents(n), a) {
				c := xored(Xor(p.key, p.nonce, x), Xor(p.key, p.nonce, b))
				if !bytes.Equal(c, xored(x, b)) {
					t.Errorf("two results of %d bytes with %x and %x: %x", n, p.key, p.nonce, c)
				}
			}
		}
	}
}

// P3.3: the blocks of different counters, keys and nonces are different.
func TestBlocksAreDifferent(t *testing.T) {
	seen := map[[64]byte]bool{}
	add := func(p pair, n uint32) {
		b := Block(p.key, p.nonce, n)
		if seen[b] {
			t.Errorf("Block(%x, %x, %d) is the block of other arguments", p.key, p.nonce, n)
		}
		seen[b] = true
	}
	key, nonce := sample()
	add(pair{key, nonce}, 0)
	for i := range len(key) * 8 {
		p := pair{key, nonce}
		p.key[i/8] ^= 1 << (i % 8)
		add(p, 0)
	}
	for i := range len(nonce) * 8 {
		p := pair{key, nonce}
		p.nonce[i/8] ^= 1 << (i % 8)
		add(p, 0)
	}
	for i := range 32 {
		add(pair{key, nonce}, 1<<i)
	}
}

// recovered is the state from which the double rounds have made a block, if the state that was added is known.
func (o oracle) recovered(b []byte, added []uint64) []uint64 {
	s := wordsOf(b)
	for i, w := range added {
		s[i] = (s[i] + modulus - w) % modulus
	}
	for range 10 {
		o.inverse().double(s)
	}
	return s
}

// P3.4: the initial state is recovered, and the key, the counter and the nonce with it.
func TestRoundsCanBeInverted(t *testing.T) {
	o := newOracle()
	r := rand.New(rand.NewSource(6))
	all := pairs()
	for range 300 {
		all = append(all, anyPair(r))
	}
	for _, p := range all {
		for _, n := range append([]uint32{r.Uint32()}, counters...) {
			b := Block(p.key, p.nonce, n)
			s := bytesOf(o.recovered(b[:], o.initial(p.key, p.nonce, n)))
			if string(s[:16]) != "expand 32-byte k" {
				t.Fatalf("Block(%x, %x, %d): the constants %x are recovered", p.key, p.nonce, n, s[:16])
			}
			if api.Key(s[16:48]) != p.key || wordsOf(s[48:52])[0] != uint64(n) || [12]byte(s[52:]) != p.nonce {
				t.Fatalf("Block(%x, %x, %d): %x is recovered", p.key, p.nonce, n, s[16:])
			}
		}
	}
}

// P3.4: no two states become one, so that every step can be undone, also from states that no key has.
func TestDoubleRoundsCanBeInverted(t *testing.T) {
	o := newOracle()
	r := rand.New(rand.NewSource(7))
	for range 3000 {
		var s [16]uint32
		for i := range s {
			s[i] = r.Uint32() & -uint32(r.Intn(2))
		}
		mixed, undone := s, make([]uint64, 16)
		doubleRound(&mixed)
		for i, w := range mixed {
			undone[i] = uint64(w)
		}
		o.inverse().double(undone)
		sameWords(t, "a double round undone", s[:], undone)
	}
}
