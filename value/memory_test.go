package value

import (
	"bytes"
	"strings"
	"sync"
	"testing"

	"fenland/api"
)

// spoil writes to every byte of a slice and to the room behind it.
func spoil(b []byte) {
	b = b[:cap(b)]
	for i := range b {
		b[i] ^= 0xEE
	}
}

// roomy returns a slice with room behind it, and the whole of its memory.
func roomy(n int) (b, whole []byte) {
	whole = bytes.Repeat([]byte{0x55}, n+300)
	return whole[:n], whole
}

func untouched(whole []byte) bool { return bytes.Count(whole, []byte{0x55}) == len(whole) }

// encodable are values of every kind of encoding, with types for which some of them are not valid.
func encodable() map[api.Value]int {
	return map[api.Value]int{
		null:                             api.Int,
		num(300):                         api.Int,
		num(-5):                          api.Day,
		text("first"):                    api.Text,
		text(strings.Repeat("long", 50)): api.Text,
		num(2):                           api.Bool,
		text("other"):                    api.Int,
		{Null: true, N: 1}:               api.Text,
		num(1):                           api.Nest,
	}
}

// V3 and P2: b stays as it was, up to its capacity, and the result has nothing of its memory, not even if nothing is
// added to it.
func TestEncodeIsSeparate(t *testing.T) {
	for v, typ := range encodable() {
		for _, n := range []int{0, 1, 3, 100} {
			b, whole := roomy(n)
			got := Encode(b, v, typ)
			again := Encode(b[:n:n], v, typ)
			if !bytes.Equal(got, again) {
				t.Errorf("Encode(%d bytes, %+v, %d) depends on the capacity", n, v, typ)
			}
			spoil(append(got, 1, 2, 3))
			spoil(got)
			if !untouched(whole) {
				t.Errorf("Encode(%d bytes, %+v, %d) changes its argument, or its result has the memory", n, v, typ)
			}
			want := bytes.Clone(again)
			spoil(whole)
			if !bytes.Equal(again, want) {
				t.Errorf("the result of Encode(%d bytes, %+v, %d) changes with the argument", n, v, typ)
			}
		}
	}
}

// V3: results for the same b are separate.
func TestEncodedResultsAreSeparate(t *testing.T) {
	b, _ := roomy(5)
	start := Encode(b, num(1), api.Int)
	for v, typ := range encodable() {
		for other, otherType := range encodable() {
			first := Encode(start, v, typ)
			kept := bytes.Clone(first)
			second := Encode(start, other, otherType)
			spoil(append(second, 1))
			spoil(second)
			if !bytes.Equal(first, kept) || !bytes.Equal(start, Encode(b, num(1), api.Int)) {
				t.Errorf("results for %+v and %+v have common memory", v, other)
			}
		}
	}
}

// P2: Decode leaves its argument, and a text that it has read stays when the bytes change.
func TestDecodeIsSeparate(t *testing.T) {
	for v, typ := range encodable() {
		_, whole := roomy(0)
		b := append(whole[:2], Encode(nil, v, typ)...)
		kept := bytes.Clone(whole)
		var read []api.Value
		for at := -1; at <= len(b)+1; at++ {
			got, _, _ := Decode(b, at, typ)
			read = append(read, got)
		}
		if !bytes.Equal(whole, kept) {
			t.Errorf("Decode of %+v changes its argument", v)
		}
		spoil(whole)
		for at, was := range read {
			if got, _, _ := Decode(kept[:len(b)], at-1, typ); got != was {
				t.Errorf("what was read at %d, %+v, changes with the argument", at-1, was)
			}
		}
	}
}

// P2: equal arguments have equal results, whatever was called before, and at the same time.
func TestCallsAtTheSameTime(t *testing.T) {
	var wait sync.WaitGroup
	for range 8 {
		for _, typ := range types {
			wait.Go(func() {
				for _, v := range validValues(typ) {
					b, s := Encode(nil, v, typ), Show(v, typ)
					decoded, next, err := Decode(b, 0, typ)
					parsed, errOfParse := Parse(s, typ)
					if !bytes.Equal(b, wantEncode(v, typ)) || s != wantShow(v, typ) || !Same(v, decoded) || v != parsed {
						t.Errorf("other results for %+v at the same time as other calls", v)
					}
					if next != len(b) || err != api.OK || errOfParse != api.OK {
						t.Errorf("errors for %+v at the same time as other calls", v)
					}
				}
			})
		}
	}
	wait.Wait()
}
