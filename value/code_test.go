package value

import (
	"bytes"
	"math"
	"math/rand"
	"slices"
	"strings"
	"testing"

	"fenland/api"
	"fenland/wire"
)

// P5.1, V3: the examples, and the encodings of the bounds.
func TestEncodings(t *testing.T) {
	for _, c := range []struct {
		v    api.Value
		t    int
		want []byte
	}{
		{null, api.Day, []byte{0}},
		{null, api.Text, []byte{0}},
		{num(-1), api.Int, []byte{1, 1}},
		{num(0), api.Bool, []byte{1, 0}},
		{num(1), api.Bool, []byte{1, 2}},
		{num(64), api.Int, []byte{1, 128, 1}},
		{text("ab"), api.Text, []byte{1, 2, 97, 98}},
		{text(""), api.Text, []byte{1, 0}},
		{num(-1 << 31), api.Small, []byte{1, 255, 255, 255, 255, 15}},
		{num(1<<31 - 1), api.Small, []byte{1, 254, 255, 255, 255, 15}},
		{num(-1000000), api.Day, []byte{1, 255, 136, 122}},
		{num(1000000), api.Day, []byte{1, 128, 137, 122}},
		{num(math.MinInt64), api.Int, []byte{1, 255, 255, 255, 255, 255, 255, 255, 255, 255, 1}},
		{text(strings.Repeat("x", 200)), api.Text, append([]byte{1, 200, 1}, strings.Repeat("x", 200)...)},
		{num(2), api.Bool, nil},
		{text("a"), api.Int, nil},
		{num(1), api.Text, nil},
		{null, api.Nest, nil},
		{api.Value{Null: true, N: 1}, api.Int, nil},
		{text(strings.Repeat("x", 201)), api.Text, nil},
	} {
		for _, b := range [][]byte{nil, {}, {9}, {1, 128, 3}} {
			if got := Encode(b, c.v, c.t); !bytes.Equal(got, slices.Concat(b, c.want)) {
				t.Errorf("Encode(%v, %+v, %d) = %v", b, c.v, c.t, got)
			}
		}
	}
}

// P5.1, V3.
func TestEncode(t *testing.T) {
	for _, v := range values() {
		for _, typ := range append(otherTypes, types...) {
			for _, b := range [][]byte{nil, {7, 0}} {
				if got := Encode(b, v, typ); !bytes.Equal(got, slices.Concat(b, wantEncode(v, typ))) {
					t.Errorf("Encode(%v, %+v, %d) = %v", b, v, typ, got)
				}
			}
		}
	}
}

// P5.3: Decode of Encode, wherever it lies in the bytes.
func TestDecodeInvertsEncode(t *testing.T) {
	for _, typ := range types {
		for _, v := range validValues(typ) {
			for _, before := range [][]byte{nil, {0}, {1, 128}} {
				for _, after := range [][]byte{nil, {0}, {1}, {128, 1}} {
					b := append(Encode(before, v, typ), after...)
					got, next, err := Decode(b, len(before), typ)
					if got != v || next != len(b)-len(after) || err != api.OK {
						t.Errorf("Decode(%v, %d, %d) = %+v, %d, %v", b, len(before), typ, got, next, err)
					}
				}
			}
		}
	}
}

// P5.3: values that were written one after the other are read one after the other.
func TestDecodeSequence(t *testing.T) {
	var b []byte
	for _, typ := range types {
		for _, v := range validValues(typ) {
			b = Encode(b, v, typ)
		}
	}
	at := 0
	for _, typ := range types {
		for _, v := range validValues(typ) {
			got, next, err := Decode(b, at, typ)
			if got != v || err != api.OK {
				t.Fatalf("Decode at %d for the type %d: %+v, %v, instead of %+v", at, typ, got, err, v)
			}
			at = next
		}
	}
	if at != len(b) {
		t.Errorf("the last value ends at %d of %d", at, len(b))
	}
}

// code returns a byte 1, what it is given, and as many bytes x as asked.
func code(n int, b ...byte) []byte {
	return append(append([]byte{1}, b...), strings.Repeat("x", n)...)
}

// P5.1, V4: each error, and which of several comes first.
func TestDecodeErrors(t *testing.T) {
	for _, c := range []struct {
		b   []byte
		at  int
		t   []int
		err api.Errno
	}{
		{[]byte{0}, -1, append(types, otherTypes...), api.ErrArg},
		{[]byte{0}, 2, append(types, otherTypes...), api.ErrArg},
		{[]byte{0}, math.MinInt, append(types, otherTypes...), api.ErrArg},
		{[]byte{0}, math.MaxInt, append(types, otherTypes...), api.ErrArg},
		{nil, -1, types, api.ErrArg},
		{nil, 1, types, api.ErrArg},
		{[]byte{0}, 0, otherTypes, api.ErrType},
		{[]byte{0}, 1, otherTypes, api.ErrType},
		{[]byte{2}, 0, otherTypes, api.ErrType},
		{[]byte{1, 0}, 0, otherTypes, api.ErrType},
		{nil, 0, otherTypes, api.ErrType},
		{nil, 0, types, api.ErrShort},
		{[]byte{0, 0}, 2, types, api.ErrShort},
		{[]byte{2}, 0, types, api.ErrForm},
		{[]byte{2, 0}, 0, types, api.ErrForm},
		{[]byte{128, 0}, 0, types, api.ErrForm},
		{[]byte{129, 0}, 0, types, api.ErrForm},
		{[]byte{255}, 0, types, api.ErrForm},
		{[]byte{1}, 0, types, api.ErrShort},
		{[]byte{1, 128}, 0, types, api.ErrShort},
		{[]byte{1, 255, 255}, 0, types, api.ErrShort},
		{[]byte{1, 128, 0}, 0, types, api.ErrForm},
		{[]byte{1, 130, 0, 97, 98}, 0, types, api.ErrForm},
		{code(0, 255, 255, 255, 255, 255, 255, 255, 255, 255, 2), 0, types, api.ErrForm},
		{[]byte{1, 4}, 0, []int{api.Bool}, api.ErrType},
		{[]byte{1, 1}, 0, []int{api.Bool}, api.ErrType},
		{code(0, 128, 128, 128, 128, 16), 0, []int{api.Bool, api.Small, api.Day}, api.ErrType},
		{code(0, 129, 128, 128, 128, 16), 0, []int{api.Bool, api.Small, api.Day}, api.ErrType},
		{code(0, 130, 137, 122), 0, []int{api.Bool, api.Day}, api.ErrType},
		{code(0, 129, 137, 122), 0, []int{api.Bool, api.Day}, api.ErrType},
		{[]byte{1, 1}, 0, []int{api.Text}, api.ErrShort},
		{[]byte{1, 2, 97}, 0, []int{api.Text}, api.ErrShort},
		{code(199, 200, 1), 0, []int{api.Text}, api.ErrShort},
		{code(200, 201, 1), 0, []int{api.Text}, api.ErrShort},
		{code(201, 201, 1), 0, []int{api.Text}, api.ErrType},
		{code(1<<20, 128, 128, 64), 0, []int{api.Text}, api.ErrType},
		{code(1<<20-1, 128, 128, 64), 0, []int{api.Text}, api.ErrShort},
		{code(1<<20+1, 129, 128, 64), 0, []int{api.Text}, api.ErrBig},
		{code(0, 129, 128, 64), 0, []int{api.Text}, api.ErrBig},
		{code(0, 129, 128, 64), 0, []int{api.Bool}, api.ErrType},
	} {
		for _, typ := range c.t {
			if v, next, err := Decode(c.b, c.at, typ); v != (api.Value{}) || next != 0 || err != c.err {
				t.Errorf("Decode(%.20v, %d, %d) = %+v, %d, %v instead of %v", c.b, c.at, typ, v, next, err, c.err)
			}
		}
	}
}

// wantDecode is V4.
func wantDecode(b []byte, at int, t int) (v api.Value, next int, err api.Errno) {
	if at < 0 || at > len(b) {
		return v, 0, api.ErrArg
	}
	if !wantValid(null, t) {
		return v, 0, api.ErrType
	}
	if at == len(b) {
		return v, 0, api.ErrShort
	}
	if b[at] == 0 {
		return null, at + 1, api.OK
	}
	if b[at] > 1 {
		return v, 0, api.ErrForm
	}
	if t == api.Text {
		v.S, next, err = wire.ReadText(b, at+1)
	} else {
		v.N, next, err = wire.ReadS(b, at+1)
	}
	if err == api.OK && !wantValid(v, t) {
		return api.Value{}, 0, api.ErrType
	}
	return v, next, err
}

// inputs are bytes of every kind: all the shortest ones, encodings with a byte more, less or changed, and numbers made
// of the bytes at which something changes.
func inputs() [][]byte {
	l := [][]byte{nil}
	for i := range 256 {
		c := byte(i)
		l = append(l, []byte{c}, []byte{1, c}, []byte{1, c, 0}, []byte{1, 128, c}, []byte{1, 1, c})
	}
	r := rand.New(rand.NewSource(3))
	for _, typ := range types {
		for _, v := range validValues(typ) {
			b := wantEncode(v, typ)
			at := r.Intn(len(b))
			changed, inserted := bytes.Clone(b), slices.Insert(bytes.Clone(b), at, byte(r.Intn(256)))
			changed[at] ^= 1 << r.Intn(8)
			l = append(l, b, b[:at], changed, inserted, slices.Delete(bytes.Clone(b), at, at+1))
		}
	}
	edges := []byte{0, 1, 2, 3, 64, 127, 128, 129, 254, 255}
	for range 20000 {
		b := make([]byte, 1+r.Intn(13))
		high := r.Intn(len(b) + 1)
		for i := range b {
			b[i] = edges[r.Intn(len(edges))]
			if i < high {
				b[i] |= 128
			}
		}
		b[0] = byte(1 + r.Intn(40)/39)
		l = append(l, b)
	}
	return l
}

// P5.1, V4.
func TestDecode(t *testing.T) {
	for _, b := range inputs() {
		for at := range min(4, len(b)+2) {
			for _, typ := range append(otherTypes, types...) {
				want, wantNext, wantErr := wantDecode(b, at-1, typ)
				v, next, err := Decode(b, at-1, typ)
				if v != want || next != wantNext || err != wantErr {
					t.Errorf("Decode(%v, %d, %d) = %+v, %d, %v", b, at-1, typ, v, next, err)
				}
			}
		}
	}
}

// P5.4: what Decode accepts is what Encode writes, and the value is valid.
func TestOnlyEncodingsAreDecoded(t *testing.T) {
	for _, b := range inputs() {
		for at := range b {
			for _, typ := range types {
				v, next, err := Decode(b, at, typ)
				if err == api.OK && (!Valid(v, typ) || !bytes.Equal(Encode(nil, v, typ), b[at:next])) {
					t.Errorf("the type %d: %v is accepted as %+v", typ, b[at:next], v)
				}
			}
		}
	}
}

// P5.4: different values have different encodings, none of which begins with another one.
func TestEncodingsAreSeparate(t *testing.T) {
	for _, typ := range types {
		seen := map[string]api.Value{}
		for _, v := range validValues(typ) {
			b := string(Encode(nil, v, typ))
			if other, used := seen[b]; used {
				t.Errorf("the type %d: %+v and %+v have the encoding %v", typ, v, other, []byte(b))
			}
			seen[b] = v
		}
		for b, v := range seen {
			for end := range len(b) {
				if other, used := seen[b[:end]]; used {
					t.Errorf("the type %d: the encoding of %+v begins with that of %+v", typ, v, other)
				}
			}
		}
	}
}

// P5.4: nothing that is a proper prefix of an encoding is accepted.
func TestPrefixesAreNotDecoded(t *testing.T) {
	for _, typ := range types {
		for _, v := range validValues(typ) {
			b := Encode(nil, v, typ)
			for end := range len(b) {
				if got, next, err := Decode(b[:end], 0, typ); got != (api.Value{}) || next != 0 || err != api.ErrShort {
					t.Errorf("the type %d: %v is decoded as %+v, %d, %v", typ, b[:end], got, next, err)
				}
			}
		}
	}
}

// P5.1, V4: bytes between the length and the capacity of b do not count.
func TestDecodeWithinTheLength(t *testing.T) {
	b := []byte{1, 2, 97, 98, 0}
	for end := range 4 {
		if _, _, err := Decode(b[:end], 0, api.Text); err != api.ErrShort {
			t.Errorf("%d bytes of a text: %v", end, err)
		}
	}
	if _, _, err := Decode(b[:4], 4, api.Int); err != api.ErrShort {
		t.Errorf("at the end: %v", err)
	}
}
