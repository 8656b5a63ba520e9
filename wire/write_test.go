package wire

import (
	"bytes"
	"math"
	"math/bits"
	"strings"
	"testing"

	"fenland/api"
)

// prefixes are arguments b: without bytes, with bytes that look like a number that goes on, and with spare capacity.
func prefixes() [][]byte {
	return [][]byte{nil, {}, {9}, {128, 255}, make([]byte, 3, 64)}
}

func follows(b, encoding []byte) []byte { return append(bytes.Clone(b), encoding...) }

// P1.1, A1.
func TestU(t *testing.T) {
	for _, x := range []struct {
		n    uint64
		want []byte
	}{
		{0, []byte{0}}, {1, []byte{1}}, {127, []byte{127}}, {128, []byte{128, 1}}, {300, []byte{172, 2}},
		{16383, []byte{255, 127}}, {16384, []byte{128, 128, 1}}, {1048576, []byte{128, 128, 64}},
		{math.MaxInt64, []byte{255, 255, 255, 255, 255, 255, 255, 255, 127}},
		{1 << 63, []byte{128, 128, 128, 128, 128, 128, 128, 128, 128, 1}},
		{math.MaxUint64, []byte{255, 255, 255, 255, 255, 255, 255, 255, 255, 1}},
	} {
		if b := U(nil, x.n); !bytes.Equal(b, x.want) {
			t.Errorf("U(nil, %d) = %v, want %v", x.n, b, x.want)
		}
	}
	for _, n := range numbers() {
		for _, p := range prefixes() {
			if b, want := U(p, n), follows(p, wantU(n)); !bytes.Equal(b, want) {
				t.Errorf("U(%v, %d) = %v, want %v", p, n, b, want)
			}
		}
	}
}

// P1.1, A2.
func TestS(t *testing.T) {
	for _, x := range []struct {
		n    int64
		want []byte
	}{
		{0, []byte{0}}, {-1, []byte{1}}, {1, []byte{2}}, {-2, []byte{3}}, {63, []byte{126}}, {-64, []byte{127}},
		{64, []byte{128, 1}}, {-65, []byte{129, 1}},
		{math.MaxInt64, []byte{254, 255, 255, 255, 255, 255, 255, 255, 255, 1}},
		{math.MinInt64, []byte{255, 255, 255, 255, 255, 255, 255, 255, 255, 1}},
	} {
		if b := S(nil, x.n); !bytes.Equal(b, x.want) {
			t.Errorf("S(nil, %d) = %v, want %v", x.n, b, x.want)
		}
	}
	for _, n := range integers() {
		for _, p := range prefixes() {
			if b, want := S(p, n), follows(p, wantS(n)); !bytes.Equal(b, want) {
				t.Errorf("S(%v, %d) = %v, want %v", p, n, b, want)
			}
		}
	}
}

// P1.1, A3.
func TestTextAndBytes(t *testing.T) {
	if b := Text(nil, "ab"); !bytes.Equal(b, []byte{2, 97, 98}) {
		t.Errorf("Text of ab: %v", b)
	}
	if b := Bytes(nil, nil); !bytes.Equal(b, []byte{0}) {
		t.Errorf("Bytes of nil: %v", b)
	}
	for _, s := range strs() {
		for _, p := range prefixes() {
			want := follows(p, wantString(s))
			if !bytes.Equal(Text(p, s), want) {
				t.Errorf("Text of %d bytes after %v", len(s), p)
			}
			if !bytes.Equal(Bytes(p, []byte(s)), want) {
				t.Errorf("Bytes of %d bytes after %v", len(s), p)
			}
		}
	}
}

// P1.1, A3: what is too long to be read can still be written.
func TestWritingHasNoLimit(t *testing.T) {
	for _, n := range []int{api.MaxObject + 1, 3 * api.MaxObject} {
		s := strings.Repeat("x", n)
		if !bytes.Equal(Text([]byte{7}, s), follows([]byte{7}, wantString(s))) {
			t.Errorf("Text of %d bytes", n)
		}
		if !bytes.Equal(Bytes([]byte{7}, []byte(s)), follows([]byte{7}, wantString(s))) {
			t.Errorf("Bytes of %d bytes", n)
		}
	}
}

// P1.4.
func TestLength(t *testing.T) {
	for k := range 65 {
		greatest := uint64(1)<<k - 1
		least := greatest - greatest>>1
		want := max(1, (k+6)/7)
		for _, n := range []uint64{least, least + (greatest-least)/3, greatest} {
			if bits.Len64(n) != k {
				t.Fatalf("%d does not have %d significant bits", n, k)
			}
			if size := len(U(nil, n)); size != want {
				t.Errorf("%d, with %d significant bits, has %d bytes, want %d", n, k, size, want)
			}
		}
	}
}
