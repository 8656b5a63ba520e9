package blake

import (
	"bytes"
	"testing"

	"fenland/api"
)

// register keeps the digests that were seen, and what they are digests of.
type register map[api.Digest]string

// add reports digests that were seen before; name is different for each of the things added.
func (r register) add(t *testing.T, d api.Digest, name string, content ...[]byte) {
	t.Helper()
	for _, b := range content {
		name += " " + string(b)
	}
	if other, is := r[d]; is {
		t.Errorf("%q and %q have the same digest", other, name)
	}
	r[d] = name
}

// flips are all byte strings that differ from b in one bit.
func flips(b []byte) [][]byte {
	var l [][]byte
	for i := range len(b) * 8 {
		c := bytes.Clone(b)
		c[i/8] ^= 1 << (i % 8)
		l = append(l, c)
	}
	return l
}

// P2.3: different byte strings.
func TestByteStringsAreSeparate(t *testing.T) {
	seen := register{}
	seen.add(t, Sum(nil), "none")
	for i := range 256 {
		seen.add(t, Sum([]byte{byte(i)}), "", []byte{byte(i)})
		for k := range 256 {
			seen.add(t, Sum([]byte{byte(i), byte(k)}), "", []byte{byte(i), byte(k)})
		}
	}
	for n := 3; n < 300; n++ {
		seen.add(t, Sum(make([]byte, n)), "", make([]byte, n))
		seen.add(t, Sum(message(n)), "", message(n))
	}
	for _, n := range []int{64, 65, 200} {
		for _, b := range flips(message(n)) {
			seen.add(t, Sum(b), "", b)
		}
	}
}

// P2.3: no bit of a byte string is without effect, with a key, in a leaf and in a pair either.
func TestEveryBitCounts(t *testing.T) {
	seen := register{}
	for _, n := range []int{1, 63, 64, 65, 130} {
		for _, b := range append(flips(message(n)), message(n)) {
			seen.add(t, Keyed(secret(32), b), "keyed", b)
			seen.add(t, Leaf(b), "leaf", b)
			seen.add(t, Pair(api.Digest{}, api.Digest{}, b), "pair", b)
		}
	}
}

// P2.3: different keys, among them those that differ in zero bytes at the end alone, and no key.
func TestKeysAreSeparate(t *testing.T) {
	for _, b := range [][]byte{nil, {0}, message(64), message(100)} {
		seen := register{}
		seen.add(t, Sum(b), "no key")
		for k := 1; k <= 32; k++ {
			seen.add(t, Keyed(make([]byte, k), b), "key", make([]byte, k))
			seen.add(t, Keyed(secret(k), b), "key", secret(k))
		}
		for _, key := range flips(secret(32)) {
			seen.add(t, Keyed(key, b), "key", key)
		}
	}
}

// P2.3: a key is more than bytes before the byte string.
func TestKeysAreSeparateFromBytes(t *testing.T) {
	seen := register{}
	all := []byte("abcdefgh")
	for k := range len(all) + 1 {
		seen.add(t, Keyed(all[:k], all[k:]), "cut", all[:k])
	}
	for k := 1; k <= 32; k++ {
		padded := append(secret(k), make([]byte, 64-k)...)
		seen.add(t, Sum(padded), "padded", padded)
		seen.add(t, Sum(append(padded, 9)), "padded and more", padded)
		seen.add(t, Keyed(secret(k), nil), "key alone", secret(k))
		seen.add(t, Keyed(secret(k), []byte{9}), "key and more", secret(k))
		seen.add(t, Keyed(secret(k), secret(k)), "key twice", secret(k))
	}
}

// P2.3: leaves and pairs, also those that have the same bytes.
func TestNodesAreSeparate(t *testing.T) {
	seen := register{}
	below := []api.Digest{{}, Sum(nil), Leaf(nil), Leaf([]byte("a")), Pair(Leaf(nil), Leaf(nil), nil)}
	for _, b := range [][]byte{nil, {0}, {1}, {0, 0}, {1, 0}, message(64)[2:], message(100)[2:]} {
		seen.add(t, Leaf(b), "leaf", b)
		for _, left := range below {
			for _, right := range below {
				same := append(append(append([]byte{}, left[:]...), right[:]...), b...)
				seen.add(t, Pair(left, right, b), "pair", left[:], right[:], b)
				seen.add(t, Leaf(same), "leaf", same)
				seen.add(t, Sum(append([]byte{2}, same...)), "bytes", same)
			}
		}
	}
}

// P2.3: the digests below a pair are not mistaken for each other, bit by bit.
func TestPairsAreSeparate(t *testing.T) {
	seen := register{}
	left, right := Leaf([]byte("left")), Leaf([]byte("right"))
	seen.add(t, Pair(left, right, nil), "pair")
	seen.add(t, Pair(right, left, nil), "turned around")
	seen.add(t, Pair(left, left, nil), "left twice")
	seen.add(t, Pair(right, right, nil), "right twice")
	for _, b := range flips(left[:]) {
		seen.add(t, Pair(api.Digest(b), right, nil), "left", b)
	}
	for _, b := range flips(right[:]) {
		seen.add(t, Pair(left, api.Digest(b), nil), "right", b)
	}
}
