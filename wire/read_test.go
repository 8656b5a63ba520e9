package wire

import (
	"bytes"
	"math"
	"strings"
	"testing"

	"fenland/api"
)

// readers are the four functions that read a number first, and therefore share its errors.
func readers() map[string]func([]byte, int) (bool, int, api.Errno) {
	return map[string]func([]byte, int) (bool, int, api.Errno){
		"ReadU": func(b []byte, at int) (bool, int, api.Errno) {
			n, next, err := ReadU(b, at)
			return n == 0, next, err
		},
		"ReadS": func(b []byte, at int) (bool, int, api.Errno) {
			n, next, err := ReadS(b, at)
			return n == 0, next, err
		},
		"ReadText": func(b []byte, at int) (bool, int, api.Errno) {
			s, next, err := ReadText(b, at)
			return s == "", next, err
		},
		"ReadBytes": func(b []byte, at int) (bool, int, api.Errno) {
			p, next, err := ReadBytes(b, at)
			return len(p) == 0, next, err
		},
	}
}

// fails checks the error of one reader, and that its other results are zero.
func fails(t *testing.T, name string, b []byte, at int, want api.Errno) {
	t.Helper()
	if zero, next, err := readers()[name](b, at); !zero || next != 0 || err != want {
		t.Errorf("%s(%v, %d): zero value %t, offset %d, %v; want %v", name, b, at, zero, next, err, want)
	}
}

// failAll checks the error of every reader.
func failAll(t *testing.T, b []byte, at int, want api.Errno) {
	t.Helper()
	for name := range readers() {
		fails(t, name, b, at, want)
	}
}

// ten is nine bytes of a number that goes on, and a tenth byte.
func ten(last ...byte) []byte {
	return append([]byte{255, 128, 255, 128, 255, 128, 255, 128, 255}, last...)
}

// P1.1, A4.
func TestReadU(t *testing.T) {
	for _, x := range []struct {
		b    []byte
		at   int
		n    uint64
		next int
	}{
		{[]byte{0}, 0, 0, 1}, {[]byte{127}, 0, 127, 1}, {[]byte{128, 1}, 0, 128, 2}, {[]byte{172, 2}, 0, 300, 2},
		{[]byte{7, 172, 2, 9}, 1, 300, 3}, {[]byte{7, 172, 2, 9}, 3, 9, 4}, {[]byte{7, 172, 2, 9}, 2, 2, 3},
		{[]byte{255, 255, 255, 255, 255, 255, 255, 255, 127}, 0, math.MaxInt64, 9},
		{[]byte{128, 128, 128, 128, 128, 128, 128, 128, 128, 1}, 0, 1 << 63, 10},
		{[]byte{255, 255, 255, 255, 255, 255, 255, 255, 255, 1}, 0, math.MaxUint64, 10},
	} {
		if n, next, err := ReadU(x.b, x.at); n != x.n || next != x.next || err != api.OK {
			t.Errorf("ReadU(%v, %d) = %d, %d, %v; want %d, %d", x.b, x.at, n, next, err, x.n, x.next)
		}
	}
}

// P1.1, A5.
func TestReadS(t *testing.T) {
	for _, x := range []struct {
		b    []byte
		at   int
		n    int64
		next int
	}{
		{[]byte{0}, 0, 0, 1}, {[]byte{1}, 0, -1, 1}, {[]byte{2}, 0, 1, 1}, {[]byte{127}, 0, -64, 1},
		{[]byte{1, 128, 1, 1}, 1, 64, 3}, {[]byte{129, 1}, 0, -65, 2},
		{[]byte{254, 255, 255, 255, 255, 255, 255, 255, 255, 1}, 0, math.MaxInt64, 10},
		{[]byte{255, 255, 255, 255, 255, 255, 255, 255, 255, 1}, 0, math.MinInt64, 10},
	} {
		if n, next, err := ReadS(x.b, x.at); n != x.n || next != x.next || err != api.OK {
			t.Errorf("ReadS(%v, %d) = %d, %d, %v; want %d, %d", x.b, x.at, n, next, err, x.n, x.next)
		}
	}
}

// P1.1, A6.
func TestReadTextAndBytes(t *testing.T) {
	for _, x := range []struct {
		b    []byte
		at   int
		want string
		next int
	}{
		{[]byte{0}, 0, "", 1}, {[]byte{2, 97, 98}, 0, "ab", 3}, {[]byte{9, 2, 0, 255, 9}, 1, "\x00\xff", 4},
		{[]byte{1, 128}, 0, "\x80", 2}, {[]byte{3, 2, 1, 0}, 2, "\x00", 4}, {[]byte{5, 0}, 1, "", 2},
	} {
		if s, next, err := ReadText(x.b, x.at); s != x.want || next != x.next || err != api.OK {
			t.Errorf("ReadText(%v, %d) = %q, %d, %v; want %q, %d", x.b, x.at, s, next, err, x.want, x.next)
		}
		if p, next, err := ReadBytes(x.b, x.at); string(p) != x.want || next != x.next || err != api.OK {
			t.Errorf("ReadBytes(%v, %d) = %q, %d, %v; want %q, %d", x.b, x.at, p, next, err, x.want, x.next)
		}
	}
}

// P1.1, A4: the offset is checked before anything is read.
func TestOffsets(t *testing.T) {
	for _, b := range [][]byte{nil, {}, {1}, {128}, {128, 0}, {1, 2, 3}, ten(2)} {
		for _, at := range []int{-1, -2, math.MinInt, len(b) + 1, len(b) + 2, math.MaxInt} {
			failAll(t, b, at, api.ErrArg)
		}
		failAll(t, b, len(b), api.ErrShort)
	}
	spare := make([]byte, 1, 8)
	failAll(t, spare, 2, api.ErrArg)
	failAll(t, spare, 1, api.ErrShort)
}

// P1.1, A4: b ends before the last byte of the number.
func TestTruncatedNumbers(t *testing.T) {
	for size := range 10 {
		failAll(t, bytes.Repeat([]byte{128}, size), 0, api.ErrShort)
		failAll(t, bytes.Repeat([]byte{255}, size), 0, api.ErrShort)
		failAll(t, append([]byte{1}, bytes.Repeat([]byte{200}, size)...), 1, api.ErrShort)
	}
	longer := []byte{128, 1}
	failAll(t, longer[:1], 0, api.ErrShort)
}

// P1.1, A4: an encoding that is longer than necessary ends with a byte 0.
func TestLongerThanNecessary(t *testing.T) {
	failAll(t, []byte{128, 0}, 0, api.ErrForm)
	failAll(t, []byte{255, 0}, 0, api.ErrForm)
	failAll(t, []byte{0, 129, 128, 0}, 1, api.ErrForm)
	for size := 1; size < 10; size++ {
		failAll(t, append(bytes.Repeat([]byte{129}, size), 0), 0, api.ErrForm)
	}
	if n, next, err := ReadU([]byte{0, 0}, 0); n != 0 || next != 1 || err != api.OK {
		t.Errorf("a first byte 0: %d, %d, %v", n, next, err)
	}
}

// P1.1, A4: the tenth byte is at most 1, and a greater one is refused before the bytes after it are missed.
func TestTenthByte(t *testing.T) {
	for last := 2; last < 256; last++ {
		failAll(t, ten(byte(last)), 0, api.ErrForm)
		failAll(t, ten(byte(last), 0), 0, api.ErrForm)
		failAll(t, ten(byte(last), 128, 128), 0, api.ErrForm)
	}
	failAll(t, ten(0), 0, api.ErrForm)
	failAll(t, ten(), 0, api.ErrShort)
	if n, next, err := ReadU(ten(1), 0); next != 10 || err != api.OK || n != 0xff01fc07f01fc07f {
		t.Errorf("a tenth byte 1: %x, %d, %v", n, next, err)
	}
	fails(t, "ReadText", ten(1), 0, api.ErrBig)
	fails(t, "ReadBytes", ten(1), 0, api.ErrBig)
}

// P1.1, A6: the length is compared with the limit before it is compared with the bytes that remain.
func TestLimitOfLengths(t *testing.T) {
	most := Text([]byte{1}, strings.Repeat("m", api.MaxObject))
	if s, next, err := ReadText(most, 1); len(s) != api.MaxObject || next != len(most) || err != api.OK {
		t.Errorf("ReadText of 2^20 bytes: %d, %d, %v", len(s), next, err)
	}
	if p, next, err := ReadBytes(most, 1); len(p) != api.MaxObject || next != len(most) || err != api.OK {
		t.Errorf("ReadBytes of 2^20 bytes: %d, %d, %v", len(p), next, err)
	}
	tooLong := Text(nil, strings.Repeat("m", api.MaxObject+1))
	for _, name := range []string{"ReadText", "ReadBytes"} {
		if zero, next, err := readers()[name](tooLong, 0); !zero || next != 0 || err != api.ErrBig {
			t.Errorf("%s of 2^20 + 1 bytes: %t, %d, %v", name, zero, next, err)
		}
		if zero, next, err := readers()[name](most[:len(most)-1], 1); !zero || next != 0 || err != api.ErrShort {
			t.Errorf("%s of 2^20 bytes without the last one: %t, %d, %v", name, zero, next, err)
		}
		fails(t, name, []byte{129, 128, 64}, 0, api.ErrBig)
		fails(t, name, []byte{128, 128, 64}, 0, api.ErrShort)
		fails(t, name, U(nil, math.MaxUint64), 0, api.ErrBig)
		fails(t, name, U(nil, 1<<63), 0, api.ErrBig)
		fails(t, name, U(nil, 1<<32), 0, api.ErrBig)
	}
}

// P1.1, A6: fewer bytes remain than the length says.
func TestTruncatedStrings(t *testing.T) {
	whole := []byte{9, 9, 9, 9, 9, 3, 97, 98, 99}
	for _, name := range []string{"ReadText", "ReadBytes"} {
		for end := 6; end < len(whole); end++ {
			fails(t, name, whole[:end], 5, api.ErrShort)
		}
		fails(t, name, []byte{1}, 0, api.ErrShort)
		fails(t, name, []byte{128, 1, 7}, 0, api.ErrShort)
	}
}

// P1 of DOC.md, and P1.1 for A4 to A6: all bytes and offsets have the results of the description.
func TestReadersAgainstTheDescription(t *testing.T) {
	for _, b := range inputs() {
		for at := -2; at <= len(b)+2; at++ {
			agrees(t, b, at)
		}
	}
}

func agrees(t *testing.T, b []byte, at int) {
	t.Helper()
	u, uNext, uErr := ReadU(b, at)
	if n, next, err := wantReadU(b, at); u != n || uNext != next || uErr != err {
		t.Errorf("ReadU(%v, %d) = %d, %d, %v; want %d, %d, %v", b, at, u, uNext, uErr, n, next, err)
	}
	i, iNext, iErr := ReadS(b, at)
	if n, next, err := wantReadS(b, at); i != n || iNext != next || iErr != err {
		t.Errorf("ReadS(%v, %d) = %d, %d, %v; want %d, %d, %v", b, at, i, iNext, iErr, n, next, err)
	}
	want, next, err := wantReadText(b, at)
	if s, sNext, sErr := ReadText(b, at); s != want || sNext != next || sErr != err {
		t.Errorf("ReadText(%v, %d) = %q, %d, %v; want %q, %d, %v", b, at, s, sNext, sErr, want, next, err)
	}
	if p, pNext, pErr := ReadBytes(b, at); string(p) != want || pNext != next || pErr != err {
		t.Errorf("ReadBytes(%v, %d) = %q, %d, %v; want %q, %d, %v", b, at, p, pNext, pErr, want, next, err)
	}
}
