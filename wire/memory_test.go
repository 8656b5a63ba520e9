package wire

import (
	"bytes"
	"testing"

	"fenland/api"
)

// writers are the four functions that write, each with two different values.
func writers() map[string][2]func([]byte) []byte {
	text := [2]string{"first", "other"}
	p := [2][]byte{[]byte("first"), []byte("other")}
	return map[string][2]func([]byte) []byte{
		"U":     {func(b []byte) []byte { return U(b, 300) }, func(b []byte) []byte { return U(b, 5) }},
		"S":     {func(b []byte) []byte { return S(b, -300) }, func(b []byte) []byte { return S(b, 5) }},
		"Text":  {func(b []byte) []byte { return Text(b, text[0]) }, func(b []byte) []byte { return Text(b, text[1]) }},
		"Bytes": {func(b []byte) []byte { return Bytes(b, p[0]) }, func(b []byte) []byte { return Bytes(b, p[1]) }},
	}
}

// spoil writes to every byte of a slice and to the room behind it.
func spoil(b []byte) {
	b = b[:cap(b)]
	for i := range b {
		b[i] = 0xEE
	}
}

// roomy returns a slice with room behind it, and the whole of its memory.
func roomy() (b, whole []byte) {
	whole = bytes.Repeat([]byte{0x55}, 64)
	return whole[:3], whole
}

func untouched(whole []byte) bool { return bytes.Equal(whole, bytes.Repeat([]byte{0x55}, 64)) }

// A7 and P2: arguments stay as they were, up to their capacity.
func TestWritersLeaveTheirArgument(t *testing.T) {
	for name, w := range writers() {
		b, whole := roomy()
		r := w[0](b)
		if !untouched(whole) {
			t.Errorf("%s changes its argument", name)
		}
		r = append(r, 1, 2, 3)
		spoil(r)
		if !untouched(whole) {
			t.Errorf("the result of %s has memory of its argument", name)
		}
	}
}

// A7: a result does not change when another one is written to or appended to.
func TestWrittenResultsAreSeparate(t *testing.T) {
	for name, w := range writers() {
		b, _ := roomy()
		first := w[0](b)
		keep := bytes.Clone(first)
		second := w[1](b)
		if !bytes.Equal(first, keep) {
			t.Errorf("%s: the second call changes the first result", name)
		}
		third, fourth := w[0](first), w[1](first)
		kept := bytes.Clone(third)
		spoil(append(second, 1))
		spoil(append(fourth, 1))
		if !bytes.Equal(first, keep) || !bytes.Equal(third, kept) {
			t.Errorf("%s: results share memory", name)
		}
	}
}

// A7: the bytes that Bytes writes are a copy, also if there are none before them.
func TestBytesCopies(t *testing.T) {
	for _, b := range [][]byte{nil, {}, {7}} {
		p, whole := roomy()
		r := Bytes(b, p)
		want := bytes.Clone(r)
		spoil(append(Bytes(b, p), 1))
		if !untouched(whole) || !bytes.Equal(r, want) {
			t.Error("Bytes shares memory with the bytes that it writes")
		}
		spoil(p)
		if !bytes.Equal(r, want) {
			t.Error("the result of Bytes changes with its argument")
		}
	}
}

// A7: one slice may be both arguments.
func TestBytesOfItself(t *testing.T) {
	b, whole := roomy()
	if r := Bytes(b, b); !bytes.Equal(r, []byte{0x55, 0x55, 0x55, 3, 0x55, 0x55, 0x55}) || !untouched(whole) {
		t.Errorf("Bytes of a slice after itself: %v", r)
	}
}

// A7 and P2: reading leaves the argument, and what was read is a copy.
func TestReadersLeaveTheirArgument(t *testing.T) {
	b := []byte{9, 3, 97, 98, 99, 8, 7, 6}
	keep := bytes.Clone(b)
	for name, read := range readers() {
		for at := -1; at <= len(b)+1; at++ {
			read(b, at)
		}
		if !bytes.Equal(b, keep) {
			t.Fatalf("%s changes its argument", name)
		}
	}
	first, _, _ := ReadBytes(b, 1)
	second, _, _ := ReadBytes(b, 1)
	text, _, _ := ReadText(b, 1)
	spoil(append(first, 1))
	spoil(first)
	if !bytes.Equal(b, keep) {
		t.Error("the result of ReadBytes has memory of its argument")
	}
	if string(second) != "abc" || text != "abc" {
		t.Error("results of reading share memory")
	}
	spoil(b)
	if string(second) != "abc" || text != "abc" {
		t.Error("what was read changes with the argument")
	}
}

// A7: an empty byte string has no memory of the argument behind it either.
func TestReadBytesOfNothing(t *testing.T) {
	b := []byte{0, 5, 6}
	p, next, err := ReadBytes(b, 0)
	if len(p) != 0 || next != 1 || err != api.OK {
		t.Fatalf("%v, %d, %v", p, next, err)
	}
	spoil(append(p, 1))
	spoil(p)
	if !bytes.Equal(b, []byte{0, 5, 6}) {
		t.Error("the result of ReadBytes has memory of its argument")
	}
}

// P2: a result depends on the arguments alone, not on earlier calls or on the capacity of b.
func TestRepeatedCalls(t *testing.T) {
	for name, w := range writers() {
		b, _ := roomy()
		if !bytes.Equal(w[0](b), w[0](b)) || !bytes.Equal(w[0](b), w[0](b[:3:3])) {
			t.Errorf("%s: two results for the same arguments", name)
		}
	}
	for _, b := range [][]byte{{3, 97, 98, 99}, {128}, {128, 0}, {129, 128, 64}} {
		for name, read := range readers() {
			zero, next, err := read(b, 0)
			again, nextAgain, errAgain := read(bytes.Clone(b), 0)
			if zero != again || next != nextAgain || err != errAgain {
				t.Errorf("%s(%v, 0): two results for the same arguments", name, b)
			}
		}
	}
}
