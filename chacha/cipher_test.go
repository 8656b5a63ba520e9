package chacha

import (
	"bytes"
	"math/rand"
	"slices"
	"testing"

	"fenland/api"
	"fenland/blake"
)

// lengths are those of byte strings around the ends of blocks.
var lengths = []int{0, 1, 2, 31, 32, 33, 62, 63, 64, 65, 66, 127, 128, 129, 191, 192, 193, 1000, 4095, 4096, 4097}

// counters are the least, the greatest, and those around the ends of bytes.
var counters = []uint32{0, 1, 2, 255, 256, 257, 1<<16 - 1, 1 << 16, 1<<24 - 1, 1 << 24, 1<<31 - 1, 1 << 31, 1<<32 - 2, 1<<32 - 1}

// pair is a key and a nonce.
type pair struct {
	key   api.Key
	nonce [12]byte
}

// pairs are keys and nonces of zero bytes, of bytes with all bits set, with a plan and without one.
func pairs() []pair {
	full := pair{api.Key(bytes.Repeat([]byte{255}, 32)), [12]byte(bytes.Repeat([]byte{255}, 12))}
	key, nonce := sample()
	l := []pair{{}, full, {full.key, [12]byte{}}, {api.Key{}, full.nonce}, {key, nonce}}
	r := rand.New(rand.NewSource(1))
	for range 5 {
		l = append(l, anyPair(r))
	}
	return l
}

func anyPair(r *rand.Rand) pair {
	var p pair
	r.Read(p.key[:])
	r.Read(p.nonce[:])
	return p
}

// contents are byte strings of n bytes.
func contents(n int) [][]byte {
	return [][]byte{make([]byte, n), bytes.Repeat([]byte{255}, n), message(n)}
}

// P3.1: C1.
func TestBlock(t *testing.T) {
	o := newOracle()
	for _, p := range pairs() {
		for _, n := range counters {
			if b := Block(p.key, p.nonce, n); !bytes.Equal(b[:], o.block(p.key, p.nonce, n)) {
				t.Errorf("Block(%x, %x, %d) = %x", p.key, p.nonce, n, b)
			}
		}
	}
}

// P3.1: C1 for keys, nonces and counters without a plan.
func TestBlockAtRandom(t *testing.T) {
	o := newOracle()
	r := rand.New(rand.NewSource(2))
	for range 3000 {
		p, n := anyPair(r), r.Uint32()
		if b := Block(p.key, p.nonce, n); !bytes.Equal(b[:], o.block(p.key, p.nonce, n)) {
			t.Fatalf("Block(%x, %x, %d) = %x", p.key, p.nonce, n, b)
		}
	}
}

// P3.1: C2.
func TestXor(t *testing.T) {
	o := newOracle()
	for _, p := range pairs() {
		for _, n := range lengths {
			for _, b := range contents(n) {
				if c := Xor(p.key, p.nonce, b); !bytes.Equal(c, o.xor(p.key, p.nonce, b)) {
					t.Errorf("Xor(%x, %x) of %d bytes: %x", p.key, p.nonce, n, c)
				}
			}
		}
	}
}

// P3.1: C2 for keys, nonces and bytes without a plan.
func TestXorAtRandom(t *testing.T) {
	o := newOracle()
	r := rand.New(rand.NewSource(3))
	for range 500 {
		p, b := anyPair(r), make([]byte, r.Intn(600))
		r.Read(b)
		if c := Xor(p.key, p.nonce, b); !bytes.Equal(c, o.xor(p.key, p.nonce, b)) {
			t.Fatalf("Xor(%x, %x, %x) = %x", p.key, p.nonce, b, c)
		}
	}
}

// P3.1: C2, after 2^32 - 1 the counter continues with 0, and the nonce after it stays as it is.
func TestCounterContinues(t *testing.T) {
	o := newOracle()
	for _, p := range pairs() {
		for _, first := range counters {
			var want []byte
			for i := range uint32(4) {
				want = append(want, o.block(p.key, p.nonce, first+i)...)
			}
			if b := combine(initial(p.key, p.nonce, first), make([]byte, 256)); !bytes.Equal(b, want) {
				t.Errorf("the key stream of %x and %x from %d: %x", p.key, p.nonce, first, b)
			}
		}
	}
}

// P3.1: the quarter round and the double round, on states that no key has.
func TestRounds(t *testing.T) {
	o := newOracle()
	r := rand.New(rand.NewSource(4))
	for range 1000 {
		s, want := [16]uint32{}, make([]uint64, 16)
		for i := range s {
			s[i] = r.Uint32()
			want[i] = uint64(s[i])
		}
		one := s
		quarterRound(&one[0], &one[1], &one[2], &one[3])
		sameWords(t, "quarter round", one[:4], o.oneQuarter(want[:4]))
		doubleRound(&s)
		o.double(want)
		sameWords(t, "double round", s[:], want)
	}
}

// oneQuarter returns four words after a quarter round.
func (o oracle) oneQuarter(l []uint64) []uint64 {
	s := slices.Clone(l)
	o.quarter(s, []int{0, 1, 2, 3})
	return s
}

func sameWords(t *testing.T, name string, s []uint32, want []uint64) {
	t.Helper()
	for i, w := range s {
		if uint64(w) != want[i] {
			t.Fatalf("%s: %x; want %x", name, s, want)
		}
	}
}

// labels are texts of several lengths, also those that are no UTF-8, and that differ in their ends alone.
func labels() []string {
	l := []string{"", "a", "b", "part0", "part1", "\x00", "\x00\x00", "\xff", "\xff\xfe", "\xc3", "ä", "a\u0308", "→", "\U0001d11e"}
	for _, n := range []int{31, 32, 33, 63, 64, 65, 127, 128, 129, 200, 1000} {
		l = append(l, string(message(n)), string(make([]byte, n)), string(bytes.Repeat([]byte{255}, n)))
	}
	return l
}

// P3.1: C3.
func TestDerive(t *testing.T) {
	for _, p := range pairs() {
		for _, label := range labels() {
			if d := Derive(p.key, label); d != api.Key(blake.Keyed(p.key[:], []byte(label))) {
				t.Errorf("Derive(%x, %q) = %x", p.key, label, d)
			}
		}
	}
}

// P3.1: C3, every bit of the key and of the label counts, and so does the length of the label.
func TestDerivedKeysAreDifferent(t *testing.T) {
	key, _ := sample()
	seen := map[api.Key]string{}
	add := func(key api.Key, label string) {
		d := Derive(key, label)
		name := string(key[:]) + label
		if other, is := seen[d]; is {
			t.Errorf("Derive returns one key for %q and %q", other, name)
		}
		seen[d] = name
	}
	for _, label := range labels() {
		add(key, label)
		for i := range len(key) * 8 {
			changed := key
			changed[i/8] ^= 1 << (i % 8)
			add(changed, label)
		}
	}
	for i := range 129 * 8 {
		b := message(129)
		b[i/8] ^= 1 << (i % 8)
		add(key, string(b))
	}
}
