package wire

import (
	"bytes"
	"math/rand"
	"testing"

	"fenland/api"
)

// inputs are bytes of every kind: all the shortest ones, long numbers made of the bytes at which something changes,
// and bytes without a plan.
func inputs() [][]byte {
	l := [][]byte{nil}
	for i := range 256 {
		l = append(l, []byte{byte(i)})
		for k := range 256 {
			l = append(l, []byte{byte(i), byte(k)})
		}
	}
	r := rand.New(rand.NewSource(2))
	edges := []byte{0, 1, 2, 63, 64, 126, 127, 128, 129, 254, 255}
	for range 20000 {
		b := make([]byte, 3+r.Intn(12))
		high := r.Intn(len(b) + 1)
		for i := range b {
			b[i] = edges[r.Intn(len(edges))]
			if i < high {
				b[i] |= 128
			}
		}
		l = append(l, b)
	}
	for range 2000 {
		b := make([]byte, r.Intn(40))
		r.Read(b)
		l = append(l, b)
	}
	return l
}

// P1.2: each value is read back where it was written, and reading ends at its end.
func TestRoundTrip(t *testing.T) {
	for _, p := range prefixes() {
		for _, n := range numbers() {
			b := U(p, n)
			if got, next, err := ReadU(b, len(p)); got != n || next != len(b) || err != api.OK {
				t.Errorf("%d after %v: %d, %d, %v", n, p, got, next, err)
			}
		}
		for _, n := range integers() {
			b := S(p, n)
			if got, next, err := ReadS(b, len(p)); got != n || next != len(b) || err != api.OK {
				t.Errorf("%d after %v: %d, %d, %v", n, p, got, next, err)
			}
		}
		for _, s := range strs() {
			b := Text(p, s)
			if got, next, err := ReadText(b, len(p)); got != s || next != len(b) || err != api.OK {
				t.Errorf("a text of %d bytes after %v: %d, %v", len(s), p, next, err)
			}
			b = Bytes(p, []byte(s))
			if got, next, err := ReadBytes(b, len(p)); string(got) != s || next != len(b) || err != api.OK {
				t.Errorf("%d bytes after %v: %d, %v", len(s), p, next, err)
			}
		}
	}
}

// P1.2: values written one after the other are read one after the other.
func TestRoundTripOfASequence(t *testing.T) {
	var b []byte
	for i, n := range numbers() {
		b = Bytes(Text(S(U(b, n), int64(n)), string(wantU(n))), make([]byte, i))
	}
	at := 0
	for i, n := range numbers() {
		u, next, err := ReadU(b, at)
		if u != n || err != api.OK {
			t.Fatalf("the number with the index %d: %d, %v", i, u, err)
		}
		s, next, err := ReadS(b, next)
		if s != int64(n) || err != api.OK {
			t.Fatalf("the integer with the index %d: %d, %v", i, s, err)
		}
		text, next, err := ReadText(b, next)
		if text != string(wantU(n)) || err != api.OK {
			t.Fatalf("the text with the index %d: %q, %v", i, text, err)
		}
		p, next, err := ReadBytes(b, next)
		if !bytes.Equal(p, make([]byte, i)) || err != api.OK {
			t.Fatalf("the bytes with the index %d: %v, %v", i, p, err)
		}
		at = next
	}
	if at != len(b) {
		t.Errorf("reading ended at %d of %d", at, len(b))
	}
}

// P1.3: what a decoder accepts is the encoding of the value that it returns.
func TestOnlyEncodingsAreAccepted(t *testing.T) {
	for _, b := range inputs() {
		if n, next, err := ReadU(b, 0); err == api.OK && !bytes.Equal(U(nil, n), b[:next]) {
			t.Errorf("ReadU accepts %v as %d", b[:next], n)
		}
		if n, next, err := ReadS(b, 0); err == api.OK && !bytes.Equal(S(nil, n), b[:next]) {
			t.Errorf("ReadS accepts %v as %d", b[:next], n)
		}
		if s, next, err := ReadText(b, 0); err == api.OK && !bytes.Equal(Text(nil, s), b[:next]) {
			t.Errorf("ReadText accepts %v as %q", b[:next], s)
		}
		if p, next, err := ReadBytes(b, 0); err == api.OK && !bytes.Equal(Bytes(nil, p), b[:next]) {
			t.Errorf("ReadBytes accepts %v as %v", b[:next], p)
		}
	}
}

// separate checks that no encoding of a list of different values is equal to another one or begins with it.
func separate(t *testing.T, l [][]byte) {
	t.Helper()
	seen := map[string]bool{}
	for _, b := range l {
		if seen[string(b)] {
			t.Errorf("two values with the encoding %v", b)
		}
		seen[string(b)] = true
	}
	for _, b := range l {
		for end := range len(b) {
			if seen[string(b[:end])] {
				t.Errorf("the encoding %v begins with another one", b)
			}
		}
	}
}

// P1.3: different values have different encodings, none of which begins with another one.
func TestEncodingsAreSeparate(t *testing.T) {
	different := map[uint64]bool{}
	for _, n := range numbers() {
		different[n] = true
	}
	for n := range uint64(70000) {
		different[n] = true
	}
	var us, ss, texts, strings [][]byte
	for n := range different {
		us = append(us, U(nil, n))
		ss = append(ss, S(nil, int64(n)))
	}
	words := map[string]bool{}
	for _, b := range inputs() {
		words[string(b)] = true
	}
	for s := range words {
		texts = append(texts, Text(nil, s))
		strings = append(strings, Bytes(nil, []byte(s)))
	}
	for _, l := range [][][]byte{us, ss, texts, strings} {
		separate(t, l)
	}
}

// P1.3: a proper prefix of an encoding is not accepted.
func TestProperPrefixesAreNotAccepted(t *testing.T) {
	for _, n := range numbers() {
		b := U(nil, n)
		for end := range len(b) {
			failAll(t, b[:end], 0, api.ErrShort)
		}
	}
	for _, s := range []string{"", "a", "\x00\x01", string(make([]byte, 200))} {
		b := Text(nil, s)
		for end := range len(b) {
			fails(t, "ReadText", b[:end], 0, api.ErrShort)
			fails(t, "ReadBytes", b[:end], 0, api.ErrShort)
		}
	}
}

// surroundings are bytes to put before the offset and after the encoding.
func surroundings() [][]byte {
	return [][]byte{nil, {0}, {1}, {127}, {128}, {255}, {128, 0}, {2, 97, 98}, ten(2), ten(128, 128)}
}

// P1.5.
func TestLocality(t *testing.T) {
	for _, before := range surroundings() {
		for _, after := range surroundings() {
			at := len(before)
			for _, n := range []uint64{0, 127, 128, 300, 1 << 62, 1<<64 - 1} {
				b := append(append(bytes.Clone(before), wantU(n)...), after...)
				end := len(b) - len(after)
				if got, next, err := ReadU(b, at); got != n || next != end || err != api.OK {
					t.Errorf("ReadU(%v, %d) = %d, %d, %v", b, at, got, next, err)
				}
			}
			for _, n := range []int64{0, -1, 64, -1 << 63, 1<<63 - 1} {
				b := append(append(bytes.Clone(before), wantS(n)...), after...)
				end := len(b) - len(after)
				if got, next, err := ReadS(b, at); got != n || next != end || err != api.OK {
					t.Errorf("ReadS(%v, %d) = %d, %d, %v", b, at, got, next, err)
				}
			}
			for _, s := range []string{"", "a", "\x80", string(make([]byte, 128))} {
				b := append(append(bytes.Clone(before), wantString(s)...), after...)
				end := len(b) - len(after)
				if got, next, err := ReadText(b, at); got != s || next != end || err != api.OK {
					t.Errorf("ReadText(%v, %d) = %q, %d, %v", b, at, got, next, err)
				}
				if got, next, err := ReadBytes(b, at); string(got) != s || next != end || err != api.OK {
					t.Errorf("ReadBytes(%v, %d) = %q, %d, %v", b, at, got, next, err)
				}
			}
		}
	}
}

// P1.5, for errors that the bytes from the offset on have settled.
func TestLocalityOfErrors(t *testing.T) {
	for _, before := range surroundings() {
		for _, after := range surroundings() {
			at := len(before)
			for _, form := range [][]byte{{128, 0}, ten(2), ten(128), ten(0)} {
				failAll(t, append(append(bytes.Clone(before), form...), after...), at, api.ErrForm)
			}
			big := append(append(bytes.Clone(before), 129, 128, 64), after...)
			fails(t, "ReadText", big, at, api.ErrBig)
			fails(t, "ReadBytes", big, at, api.ErrBig)
		}
		failAll(t, append(bytes.Clone(before), 128), len(before), api.ErrShort)
	}
}

// P1.5: nor do bytes between the length and the capacity of b.
func TestLocalityBeyondTheLength(t *testing.T) {
	b := []byte{3, 97, 98, 99, 128, 1}
	failAll(t, b[:5], 4, api.ErrShort)
	fails(t, "ReadText", b[:3], 0, api.ErrShort)
	fails(t, "ReadBytes", b[:3], 0, api.ErrShort)
}
